import PyProof.Rows.All
import Wide.All
import OpenK.AllK
import Wide.FinOn
import PyProof.ReprBulk
import HandS.Base
import HandS.Call
import HandS.List
import HandS.Ends
import HandS.Words
import HandS.Lambda
import HandS.EndBits
import HandS.EndTab
import HandS.Defaults
import HandS.Deep
import HandS.TupAny
import HandS.Exc
import HandS.ExcInit
import HandS.WordsExc
import HandS.TryOnly
import KE.KExcSuper
import KE.KExcMake
import HandS.ClsMeth
import KE.KTypeName
import KE.KTryMore
import HandS.HotCalls
import HandS.ExcField
import HandS.ForMost
import HandS.Walk
import HandS.IsInst
import HandS.HeadHook4
import HandS.Star
import HandS.SlotsOwn
import PyProof.InstNe
import OpenK.KOps
import HandS.Comp
import HandS.FStr
import HandS.Zip
import KE.GoesZip
import KE.GoesMore
import KE.GoesEnum
import PyProof.StrOps2
import HandS.Codes
import HandS.Wide
import HandS.StrMore
import PySem.Challenge.RW_missingmiles_k04_texts_of_ratios
import HandS.Gcd
import HandS.Style
import HandS.Head0
import HandS.Head1
import HandS.Head2
import HandS.Head3
set_option Elab.async false
set_option maxRecDepth 100000
/-! Data that is small enough to be shown; calls made where no repr is under way; the law's end for such calls. -/
namespace VG
open PySem PySem.Spec PyProof.Rows L2

/-! ### small data -/
mutual
def sm : PyData → Bool
  | .none => true
  | .bool _ => true
  | .int i => decide (i.natAbs < 10 ^ 90)
  | .str x => PyData.strOk x
  | .list xs => smAll xs
  | .tuple xs => smAll xs
  | .dict _ => false
def smAll : List PyData → Bool
  | [] => true
  | x :: xs => sm x && smAll xs
end
theorem pow90 : (10 : Nat) ^ 90 < 2 ^ 1900 := by decide +kernel
theorem log_of {n : Nat} (h : n < 10 ^ 90) : n.log2 < 1920 := by
  by_cases z : n = 0
  · subst z
    decide
  · have q : n.log2 < 1900 := (Nat.log2_lt z).mpr (Nat.lt_trans h pow90)
    exact Nat.lt_of_lt_of_le q (by decide)
theorem signs_small {x : Str} (h : PyData.strOk x = true) : ∀ c ∈ x.cps.toList, c < 16 ^ 8 := fun c hc => by
  have q := Array.all_eq_true_iff_forall_mem.mp h c (Array.mem_toList_iff.mp hc)
  have q2 : c < 1114112 := of_decide_eq_true q
  exact Nat.lt_trans q2 (by decide)
theorem int_len {i : Int} (h : i.natAbs < 10 ^ 90) : (PyData.int i).shown.length ≤ 100 := by
  rw [PyData.shown_int, _root_.PySem.ofString_length]
  exact Nat.le_trans (int_text_length_le10 (k := 90) (by decide) h) (by decide)
mutual
theorem sm_all : ∀ d : PyData, sm d = true → (d.showable = true ∧ d.hasDict = false) ∧ d.leavesShort 100 = true ∧ d.canLay0 = true
  | .none, _ => ⟨⟨rfl, rfl⟩, rfl, rfl⟩
  | .bool _, _ => ⟨⟨rfl, rfl⟩, rfl, rfl⟩
  | .int i, h => by
    have q : i.natAbs < 10 ^ 90 := of_decide_eq_true (by simpa only [sm] using h)
    exact ⟨⟨by simp only [PyData.showable]; exact decide_eq_true (log_of q), by simp only [PyData.hasDict]⟩, by simp only [PyData.leavesShort]; exact decide_eq_true (int_len q), by simp only [PyData.canLay0]⟩
  | .str x, h => by
    have q : PyData.strOk x = true := by simpa only [sm] using h
    refine ⟨⟨by simp only [PyData.showable], by simp only [PyData.hasDict]⟩, ?_, by simp only [PyData.canLay0]; exact q⟩
    simp only [PyData.leavesShort]
    exact List.all_eq_true.mpr fun c hc => decide_eq_true (signs_small q c hc)
  | .list xs, h => by
    obtain ⟨⟨a, b⟩, c, e⟩ := sm_alls xs (by simpa only [sm] using h)
    exact ⟨⟨by simp only [PyData.showable]; exact a, by simp only [PyData.hasDict]; exact b⟩, by simp only [PyData.leavesShort]; exact c, by simp only [PyData.canLay0]; exact e⟩
  | .tuple xs, h => by
    obtain ⟨⟨a, b⟩, c, e⟩ := sm_alls xs (by simpa only [sm] using h)
    exact ⟨⟨by simp only [PyData.showable]; exact a, by simp only [PyData.hasDict]; exact b⟩, by simp only [PyData.leavesShort]; exact c, by simp only [PyData.canLay0]; exact e⟩
  | .dict _, h => by simp [sm] at h
theorem sm_alls : ∀ xs : List PyData, smAll xs = true → (PyData.showableAll xs = true ∧ PyData.hasDictAll xs = false) ∧ PyData.leavesShortAll 100 xs = true ∧ PyData.canLayAll0 xs = true
  | [], _ => ⟨⟨rfl, rfl⟩, rfl, rfl⟩
  | x :: xs, h => by
    have h' : sm x = true ∧ smAll xs = true := by simpa only [smAll, Bool.and_eq_true] using h
    obtain ⟨⟨a, b⟩, c, e⟩ := sm_all x h'.1
    obtain ⟨⟨a', b'⟩, c', e'⟩ := sm_alls xs h'.2
    simp only [PyData.showableAll, PyData.hasDictAll, PyData.leavesShortAll, PyData.canLayAll0, a, b, c, e, a', b', c', e', Bool.and_self, Bool.or_self, and_self]
end
/-- d may be shown, and compared: its leaves are small, it is neither deep nor long -/
structure Sm (d : PyData) : Prop where
  sm : sm d = true
  dp : d.depth ≤ 40
  bk : d.bulk ≤ 100000
theorem Sm.fits {d : PyData} (h : Sm d) : d.shown.length ≤ sizeLine := by
  have q := PyData.shown_le_bulk 100 (by decide) d (sm_all d h.sm).2.1
  have b := h.bk
  have e : (100 + 2) * d.bulk ≤ 102 * 100000 := Nat.mul_le_mul (by decide) b
  rw [sizeLine_eq]
  omega
theorem Sm.shaped {d : PyData} (h : Sm d) : SeqAt.shaped d = true := by
  have e := (sm_all d h.sm).2.2
  have f : d.depth ≤ 64 := Nat.le_trans h.dp (by decide)
  show (d.canLay0 && decide (d.depth ≤ 64)) = true
  rw [e, decide_eq_true f]
  rfl

/-! ### repr of data, where no repr is under way -/
def rRepr (K : PySem.W.Frag) : List V → Hp → VK → Prop := fun xs H Q => ∃ x d, xs = [x] ∧ Dp K H x d ∧ Sm d ∧ Q (.str d.shown) H
section
variable {X : Cx}
theorem call_repr (hG : X.A.guards = some []) (hu : X.A.units + 64 < cLine) : CallR X (.builtin "repr") (rRepr X.K) := by
  intro pins s σ H xs us Q I r h
  obtain ⟨x, d, rfl, hd, hS, q⟩ := h
  obtain ⟨u, rfl, r1⟩ := vals1 r
  have fit := hS.fits
  obtain ⟨⟨hs, hn⟩, _, _⟩ := sm_all d hS.sm
  obtain ⟨as, rd⟩ := Dp.reads I d x u hd r1
  cases hd with
  | non =>
    cases r1
    refine PySem.P.repr_of_none ⟨.str _, H, I.tok _, ⟨_, rfl⟩, ?_⟩
    rw [PyData.shown_none] at q
    exact q
  | bl b =>
    cases r1
    refine PySem.P.repr_of_bool ⟨.str _, H, I.tok _, ⟨_, rfl⟩, ?_⟩
    rw [PyData.shown_bool] at q
    cases b <;> exact q
  | int i =>
    obtain ⟨t, rfl⟩ := r1
    have z : i.natAbs < 10 ^ 90 := of_decide_eq_true (by simpa only [VG.sm] using hS.sm)
    exact PySem.P.repr_of_int (log_of z) ⟨.str _, H, I.tok _, ⟨_, rfl⟩, by rw [PyData.shown_int] at q; exact q⟩
  | str y =>
    obtain ⟨t, rfl⟩ := r1
    rw [PyData.shown_str] at q fit
    exact PySem.P.repr_of_str ⟨.str _, H, I.tok _, ⟨_, rfl⟩, q⟩ fit
  | lst hl ha =>
    cases r1
    exact repr_of_reads' rd hs (PyData.noDict_hsm hn) hG (by have := hS.dp; omega) (fun _ _ e => e) (fun h' u tk hk => ⟨.str _, H, I.kept hk, ⟨_, rfl⟩, q⟩) fit
  | tup hl ha =>
    cases r1
    exact repr_of_reads' rd hs (PyData.noDict_hsm hn) hG (by have := hS.dp; omega) (fun _ _ e => e) (fun h' u tk hk => ⟨.str _, H, I.kept hk, ⟨_, rfl⟩, q⟩) fit
end

/-! ### defs that are called where no repr is under way -/
structure FnG (P : Program) (w : World) (K : PySem.W.Frag) (mg : Str → Option Value) (base : Heap) (CX : CXT) (k : Nat) (f : Addr) (fd : FuncData) (ps : List Str) (sp : Sp) : Prop where
  many : ∀ vs H Q E, sp vs H Q E → vs.length = ps.length
  runs : ∀ (A : Around) (outer : List Env) (s : Shared) (H : Hp) (args : Args) (us : List Value) (vs : List V) (Q : VK) (E : XK), A.guards = some [] → Room k A → Env0 P w K mg base A outer s H →
    BindsTo s fd args (ps.zip us) → Vals vs us → sp vs H Q E → codeAny (model P w) A (.call (.ref f) args) (CR CX outer P w H s Q E) s
section
variable {P : Program} {w : World} {K : PySem.W.Frag} {mg : Str → Option Value} {base : Heap}
theorem okG {x qual : Str} {st : Stmt} {f : Addr} {fd : FuncData} {N ps : List Str} {k : Nat} {sp : Sp} (F : Fun K x qual st f fd) (S : FnScope N ps (defScope st)) (many : ∀ vs H Q E, sp vs H Q E → vs.length = ps.length)
    (body : ∀ (cdv : Value) (A : Around) (outer : List Env) (s : Shared) (H : Hp) (vs : List V) (Q : VK) (E : XK), A.guards = some [] → Room k (A.deeper (envOfC qual (defScope st) s.heap.objs.size f cdv)) → sp vs H Q E →
      ∃ t, PSs (cxOf CX0 P w K mg base N qual (defScope st) f cdv A outer s H E).nox (defBody st) t ∧
        t { nx := fun _ H' => Q .non H', rt := Q } (L2.start N vs) H) : FnG P w K mg base CX0 (k + 1) f fd ps sp := by
  obtain ⟨oc, od, kV, doc, pm, an, cdv, ct, osl, rfl, lk, hcd⟩ := F.ex
  refine ⟨many, fun A outer s H args us vs Q E hG hr e0 hb r q => ?_⟩
  refine LamX.run_ofS lk hcd S hr e0 hb r (many _ _ _ _ q) fun hr' => ?_
  obtain ⟨t, h1, h2⟩ := body cdv A outer s H vs Q E hG hr' q
  exact ⟨t, h1.nox, h2⟩
end
section
variable {X : Cx} {CX : CXT} {k : Nat} {f : Addr} {fd : FuncData} {ps : List Str} {sp : Sp} {dvs : List V} {ds : List Value} {E : XK} {x : Str} {p pos : Pos} {e : Expr} {es : List Expr} {t : TA}
theorem pe_callG (F : FnG X.prog X.w X.K X.mg X.base CX k f fd ps sp) (hG : X.A.guards = some []) (hr : Room k X.A) (hg : Gl X x) (hm : X.mg x = some (.ref f)) (hk : PySem.W.keepIn X.K (.ref f) = true) (hb : Binds X.K fd ps ds) (hd : Vals dvs ds)
    (hx : Passes CX X E) (ha : PA X (e :: es) t) (n1 : (x == ("__debug__" : Str)) = false := by decide) (n2 : starEach (e :: es) X.env = (false, eval e X.env) :: starEach es X.env := by rfl)
    (n3 : (backTo pos (starEach es X.env)).any (·.1) = false := by rfl) : PE X (.Call (.Name x p) (e :: es) [] pos) (tCall sp dvs E t) := by
  refine ⟨fun pins s σ H Q I q0 => wpAny_Call_Name_kw (ld_glob I hg hm (PySem.W.callWith_K (h₀ := X.base) I.ok.mod.kin hk (thn (ha.run pos pins s σ H _ I q0) fun us s1 ⟨vs, H1, I1, r, q⟩ => ⟨I1.kIn, ?_⟩) n2 n3) n1)⟩
  have r2 : Vals (vs ++ dvs) (us ++ ds) := r.append hd
  have l2 : (us ++ ds).length = ps.length := r2.length.symm.trans (F.many _ _ _ _ q)
  refine wpAny_call (codeAny_mono (F.runs X.A X.stack s1 H1 ⟨us, []⟩ (us ++ ds) (vs ++ dvs) Q E hG hr I1.env0 (hb s1 us I1.kIn l2) r2 q) fun res s' z => ?_)
  match res, z with
  | .error err, z => exact hx pins σ H1 s1 err s' I1 z
  | .ok (.ret u), z => exact I1.after z
  | .ok .next, z => exact z.elim
  | .ok .brk, z => exact z.elim
  | .ok .cont, z => exact z.elim
end
end VG

set_option maxRecDepth 100000
/-! The law's end where the law's promise asks that no repr is under way. -/
namespace VG
open PySem PySem.Spec PyProof.Rows L2 LamX

def tabObj : Obj := { cls := .none, data := .fields #[] }
def scriptObj (vs : List Value) : Obj := { cls := .type "list", data := .seq vs.toArray }
/-- what is tracked where the law is called: the tables, and the script where sc says so -/
def laidAt (cs : List (Addr × Addr)) (a : Addr) (vs : List Value) (ns : List Int) (sc : Bool) : Hp := fun b =>
  if b ∈ cs.map (·.2) then some (.tbl #[]) else if sc = true ∧ b = a then some (.frz (scriptObj vs) (.lst (ns.map V.int))) else none
theorem laid_tab {cs : List (Addr × Addr)} {a : Addr} {vs : List Value} {ns : List Int} {sc : Bool} {b : Addr} (h : b ∈ cs.map (·.2)) : laidAt cs a vs ns sc b = some (.tbl #[]) := if_pos h
theorem laid_script {cs : List (Addr × Addr)} {a : Addr} {vs : List Value} {ns : List Int} (h : a ∉ cs.map (·.2)) : laidAt cs a vs ns true a = some (.frz (scriptObj vs) (.lst (ns.map V.int))) := by
  unfold laidAt
  rw [if_neg h, if_pos ⟨rfl, rfl⟩]
theorem laid_cases {cs : List (Addr × Addr)} {a : Addr} {vs : List Value} {ns : List Int} {sc : Bool} {b : Addr} {u : HO} (h : laidAt cs a vs ns sc b = some u) :
    (b ∈ cs.map (·.2) ∧ u = .tbl #[]) ∨ (sc = true ∧ b = a ∧ u = .frz (scriptObj vs) (.lst (ns.map V.int))) := by
  unfold laidAt at h
  by_cases h1 : b ∈ cs.map (·.2)
  · rw [if_pos h1] at h
    exact .inl ⟨h1, (Option.some.inj h).symm⟩
  · rw [if_neg h1] at h
    by_cases h2 : sc = true ∧ b = a
    · rw [if_pos h2] at h
      exact .inr ⟨h2.1, h2.2, (Option.some.inj h).symm⟩
    · rw [if_neg h2] at h
      cases h

theorem law_runG {P : Program} {w : World} {K : PySem.W.Frag} {mg mb : Str → Option Value} {CX : CXT} {k : Nat} {fa a : Addr} {cs : List (Addr × Addr)} {fd : FuncData} {x : Str} {sp : Sp} {s₁ : Shared} {vs : List Value} {ns : List Int}
    (KX : K.In s₁.heap) (hns : s₁.heap.Ns mainGlobals mg) (hb : s₁.heap.Ns builtinsNs mb) (hbb : ∀ x : Str, x ≠ "__name__" → mb x = bootBuiltins x) (hlim : s₁.heap.NoLimit)
    (hgen : s₁.gens = #[]) (hT : ∀ p ∈ cs, s₁.heap.get? p.2 = some tabObj) (nT : ∀ p ∈ cs, K.lookup p.2 = none) (C : ∀ p ∈ cs, PySem.W.CodeHd s₁.heap p.1 p.2)
    (hbm : ∃ (bm : Addr) (ob : Obj), mg "__builtins__" = some (.ref bm) ∧ bm ≠ builtinsNs ∧
      s₁.heap.get? bm = some ob ∧ ob.cls = .type "module" ∧ ob.dict = some builtinsNs ∧ ob.data = .plain)
    (ha : s₁.heap.get? a = some (scriptObj vs)) (hi : IntsAre vs ns) (hl : ns.length ≤ sizeLine) (hr : Room k callerA)
    (F : ∀ base : Heap, K.In base → base.Ns mainGlobals mg → (∀ p ∈ cs, TabB base mg p.1 p.2) → FnG P w K mg base CX k fa fd [x] sp)
    (bind1 : ∀ (s : Shared) (u : Value), BindsTo s fd ⟨[u], []⟩ [(x, u)])
    (kept : ∀ H : Hp, (∀ p ∈ cs, H p.2 = some (.tbl #[])) → SqL K H a (ns.map V.int) → sp [.ref a] H (fun v _ => v = .bl true) fun _ _ _ => False)
    (noX : ∀ H e s', CX [] H s₁ (fun _ _ _ => False) e s' → False) :
    codeAny (model P w) callerA (.call (.ref fa) ⟨[.ref a], []⟩)
      (fun r s' => r = .ok (.ret (.bool true)) ∧ OldK s₁.heap s'.heap ∧ s'.os = s₁.os ∧ AllBare s'.gens) s₁ := by
  have rv : Vals (ns.map V.int) vs := vals_ints hi
  have tabOf : ∀ b, b ∈ cs.map (·.2) → ∃ p ∈ cs, p.2 = b := fun b z => List.mem_map.mp z
  have inTab : ∀ p ∈ cs, p.2 ∈ cs.map (·.2) := fun p hp => List.mem_map.mpr ⟨p, hp, rfl⟩
  have atTab : ∀ b, b ∈ cs.map (·.2) → s₁.heap.get? b = some tabObj := fun b z => by
    obtain ⟨p, hp, rfl⟩ := tabOf b z
    exact hT p hp
  have aNo : a ∉ cs.map (·.2) := fun z => by
    have q := ha.symm.trans (atTab a z)
    have q2 : Data.seq vs.toArray _ = Data.fields #[] := congrArg Obj.data (Option.some.inj q)
    cases q2
  -- sc: is the script tracked (else it is one of the module's own objects)
  obtain ⟨sc, hsc, hseq⟩ : ∃ sc : Bool, (sc = true → K.lookup a = none) ∧ SqL K (laidAt cs a vs ns sc) a (ns.map V.int) := by
    cases hk : K.lookup a with
    | none => exact ⟨true, fun _ => rfl, .inl (.inr ⟨_, laid_script aNo⟩)⟩
    | some o =>
      have q := ha.symm.trans (KX a o hk)
      cases q
      refine ⟨false, fun z => (nomatch z), .inr ⟨_, vs.toArray, _, hk, rfl, rfl, rfl, ?_, by simpa using rv⟩⟩
      rw [List.size_toArray]
      exact hi.length ▸ hl
  generalize hH : laidAt cs a vs ns sc = H at hseq
  have tabH : ∀ p ∈ cs, H p.2 = some (.tbl #[]) := fun p hp => by
    rw [← hH]
    exact laid_tab (inTab p hp)
  have casesH : ∀ {b u}, H b = some u → (b ∈ cs.map (·.2) ∧ u = .tbl #[]) ∨ (sc = true ∧ b = a ∧ u = .frz (scriptObj vs) (.lst (ns.map V.int))) := fun {b u} q => by
    rw [← hH] at q
    exact laid_cases q
  have hok : HOk P w H s₁.heap := fun b u q => by
    rcases casesH q with ⟨z, rfl⟩ | ⟨_, rfl, rfl⟩
    · exact atTab b z
    · exact ⟨ha, by rw [List.length_map]; exact hl, vs, _, rv, ha⟩
  -- an object of another data is not tracked
  have other : ∀ {b : Addr} {o : Obj}, s₁.heap.get? b = some o → o.data ≠ tabObj.data → o.data ≠ (scriptObj vs).data → H b = none := fun {b o} e n1 n2 => by
    cases q : H b with
    | none => rfl
    | some u =>
      rcases casesH q with ⟨z, _⟩ | ⟨_, z, _⟩
      · exact (n1 (congrArg Obj.data (Option.some.inj (e.symm.trans (atTab b z))))).elim
      · exact (n2 (congrArg Obj.data (Option.some.inj (e.symm.trans (z ▸ ha))))).elim
  have keeps : ∀ {b : Addr} {o : Obj}, s₁.heap.get? b = some o → o.data ≠ tabObj.data → o.data ≠ (scriptObj vs).data → (hidT s₁.heap H).get? b = some o := fun e n1 n2 => hidT_get e (other e n1 n2)
  have nsK : ∀ {b : Addr} {m : Str → Option Value}, s₁.heap.Ns b m → (hidT s₁.heap H).Ns b m := fun ⟨o, es, ep, e, d, r⟩ =>
    ⟨o, es, ep, keeps e (fun z => by rw [d] at z; cases z) (fun z => by rw [d] at z; cases z), d, r⟩
  have hKb : K.In (hidT s₁.heap H) := fun b o e => hidT_get (KX b o e) (by
    cases q : H b with
    | none => rfl
    | some u =>
      rcases casesH q with ⟨z, _⟩ | ⟨z1, z, _⟩
      · obtain ⟨p, hp, rfl⟩ := tabOf b z
        rw [nT p hp] at e
        cases e
      · rw [z, hsc z1] at e
        cases e)
  have hM : L2.Mod K mg (hidT s₁.heap H) := ⟨hKb, nsK hns, ⟨mb, nsK hb, hbb⟩, let ⟨mc, h1, h2⟩ := hlim; ⟨mc, nsK h1, h2⟩⟩
  have TB : ∀ p ∈ cs, TabB (hidT s₁.heap H) mg p.1 p.2 := fun p hp => by
    refine ⟨?_, ?_, fun z => ?_⟩
    · obtain ⟨o, us, file, tf, flags, tg, inF, text, tt, e1, r1, r2, r3, r4, r5, r6, r7, r8, hne⟩ := C p hp
      refine ⟨o, us, file, tf, flags, tg, inF, text, tt, keeps e1 (fun z => ?_) (fun z => ?_), r1, r2, r3, r4, r5, r6, r7, r8, hne⟩
      · have z2 := r2.symm.trans z
        cases z2
        simp at r3
      · have z2 := r2.symm.trans z
        cases z2
    · obtain ⟨bm, ob, b1, b2, b3, b4, b5, b6⟩ := hbm
      refine ⟨bm, ob, b1, b2, fun q => ?_, fun q => ?_, keeps b3 (fun z => ?_) (fun z => ?_), b4, b5, b6⟩
      · obtain ⟨o, es, ep, e, hd, _⟩ := hns
        have z := Option.some.inj ((q ▸ b3).symm.trans e)
        rw [← z, b6] at hd
        cases hd
      · have z := Option.some.inj ((q ▸ b3).symm.trans (hT p hp))
        rw [z] at b6
        cases b6
      · have z2 := b6.symm.trans z
        cases z2
      · have z2 := b6.symm.trans z
        cases z2
    · obtain ⟨o, es, ep, e, hd, _⟩ := hns
      have z2 := Option.some.inj ((z ▸ e).symm.trans (hT p hp))
      rw [z2] at hd
      cases hd
  have e0 : Env0 P w K mg (hidT s₁.heap H) callerA [] s₁ H :=
    ⟨rfl, hM, fun b o e => of_hidT e, Nat.le_of_eq (hidT_size _ _), trivial, fun b z => absurd (show b ∈ ([] : List Addr) from z) (by simp), hok, .of_eq hgen⟩
  refine codeAny_mono ((F _ hKb (nsK hns) TB).runs callerA [] s₁ H ⟨[.ref a], []⟩ [.ref a] [.ref a] _ _ rfl hr e0 (bind1 s₁ (.ref a)) (.cons rfl .nil) (kept H tabH hseq)) fun r s' z => ?_
  match r, z with
  | .error e, z => exact (noX H e s' z).elim
  | .ok .next, z => exact z.elim
  | .ok .brk, z => exact z.elim
  | .ok .cont, z => exact z.elim
  | .ok (.ret u), z =>
    obtain ⟨v, H', os, bare, un, hok', r', q⟩ := z
    have q1 : v = .bl true := q
    subst q1
    obtain rfl : u = Value.bool true := r'
    -- all but the tables is as it was
    have old : ∀ b o, b ∉ cs.map (·.2) → s₁.heap.get? b = some o → s'.heap.get? b = some o := fun b o nb e => by
      cases q : H b with
      | none => exact un.keep b o e q (fun z => absurd (show b ∈ ([] : List Addr) from z) (by simp)) (by simp)
      | some u =>
        rcases casesH q with ⟨z, _⟩ | ⟨_, rfl, rfl⟩
        · exact absurd z nb
        · obtain ⟨e2, _⟩ := hok' b _ (un.frzs b _ _ q)
          rw [ha] at e
          rw [← e]
          exact e2
    have grew : ∀ p ∈ cs, ∃ more : Array Value, s'.heap.get? p.2 = some { cls := .none, data := .fields more } := fun p hp => by
      obtain ⟨more, z⟩ := un.tbls p.2 #[] (tabH p hp)
      exact ⟨_, hok' p.2 _ z⟩
    refine ⟨rfl, ⟨fun b o e => ?_, fun b o e => ?_⟩, os, bare⟩
    · by_cases z : b ∈ cs.map (·.2)
      · obtain ⟨p, hp, rfl⟩ := tabOf b z
        obtain ⟨more, hm⟩ := grew p hp
        have e2 := Option.some.inj (e.symm.trans (hT p hp))
        rw [e2]
        exact .inr (.inl ⟨((C p hp).tab (hT p hp)).isCodeTable, rfl, #[], more, rfl, by rw [Array.empty_append]; exact hm⟩)
      · exact .inl (old b o z e)
    · by_cases z : b ∈ cs.map (·.2)
      · obtain ⟨p, hp, rfl⟩ := tabOf b z
        obtain ⟨more, hm⟩ := grew p hp
        exact ⟨_, hm⟩
      · exact ⟨o, old b o z e⟩

/-- what is known of the law's promise at the head's heap h -/
def LawG (l : PySem.W.OpenLaw) (w : World) (K : PySem.W.Frag) (CX : CXT) (k n : Nat) (x : Str) (mg : Str → Option Value) (fa : Addr) (h : Heap) : Prop :=
  ∃ (fd : FuncData) (cs : List (Addr × Addr)) (sp : Sp), (∀ p ∈ cs, h.get? p.2 = some tabObj) ∧ (∀ p ∈ cs, K.lookup p.2 = none) ∧ (∀ p ∈ cs, PySem.W.CodeHd h p.1 p.2) ∧
    (∀ (s : Shared) (u : Value), BindsTo s fd ⟨[u], []⟩ [(x, u)]) ∧
    (∀ (H : Hp) (a : Addr) (ns : List Int), ns.length ≤ n → (∀ z ∈ ns, Builtin.Int.intBits z ≤ 1048576) → (∀ p ∈ cs, H p.2 = some (.tbl #[])) → SqL K H a (ns.map V.int) →
      sp [.ref a] H (fun v _ => v = .bl true) fun _ _ _ => False) ∧
    ∀ base : Heap, K.In base → base.Ns mainGlobals mg → (∀ p ∈ cs, TabB base mg p.1 p.2) → FnG l.prog w K mg base CX k fa fd [x] sp
theorem walkG {l : PySem.W.OpenLaw} {n k : Nat} {q : Program} {loose : List Str} {XP : (Str → Option Value) → Heap → Prop} {YP : World → Heap → Prop} {d : DefRec} {K : Params → PySem.W.Frag} {CX : World → CXT} {x : Str}
    (hn : l.most = some n) (hn2 : n ≤ sizeLine) (hdf : d.params.defaults = []) (hr : Room k callerA)
    (hY : ∀ (w : World) (h : Heap), YP w h → (K w.params).In h)
    (F : ∀ (w : World) (mg : Str → Option Value) (fa : Addr) (h : Heap), YP w h → (K w.params).In h → h.Ns mainGlobals mg → mg d.name = some (.ref fa) →
      LawG l w (K w.params) (CX w) k n x mg fa h)
    (noX : ∀ (w : World) (H : Hp) (s : Shared) (e : Value) (s' : Shared), CX w [] H s (fun _ _ _ => False) e s' → False) :
    PySem.W.WalkO q loose XP YP l.row.toRowW d [] (fun f vs => PySem.call f vs) :=
  Att.attach_callB hn hdf fun w s₀ s₁ mg mb fa o pm cd doc a vs ns G Y ho hd hcd hmg hobj hints hlen hbits hg => by
    obtain ⟨fd, cs, sp, hT, nT, C, hb, hsp, hF⟩ := F w mg fa _ Y (hY w _ Y) G.T.g hmg
    exact law_runG (hY w _ Y) G.T.g G.T.b G.T.builtins G.T.nolimit hg hT nT C G.T.bmain hobj hints (Nat.le_trans hlen hn2) hr hF hb (fun H hH hS => hsp H a ns hlen hbits hH hS) fun H e s' => noX w H s₁ e s'
theorem walkGE {l : PySem.W.OpenLaw} {n k : Nat} {q : Program} {loose : List Str} {XP : (Str → Option Value) → Heap → Prop} {YP : World → Heap → Prop} {d : DefRec} {CX : World → CXT} {x : Str}
    (hn : l.most = some n) (hn2 : n ≤ sizeLine) (hdf : d.params.defaults = []) (hr : Room k callerA)
    (F : ∀ (w : World) (mg : Str → Option Value) (fa : Addr) (h : Heap), YP w h → h.Ns mainGlobals mg → mg d.name = some (.ref fa) →
      ∃ K : PySem.W.Frag, K.In h ∧ LawG l w K (CX w) k n x mg fa h)
    (noX : ∀ (w : World) (H : Hp) (s : Shared) (e : Value) (s' : Shared), CX w [] H s (fun _ _ _ => False) e s' → False) :
    PySem.W.WalkO q loose XP YP l.row.toRowW d [] (fun f vs => PySem.call f vs) :=
  Att.attach_callB hn hdf fun w s₀ s₁ mg mb fa o pm cd doc a vs ns G Y ho hd hcd hmg hobj hints hlen hbits hg => by
    obtain ⟨K, KX, fd, cs, sp, hT, nT, C, hb, hsp, hF⟩ := F w mg fa _ Y G.T.g hmg
    exact law_runG KX G.T.g G.T.b G.T.builtins G.T.nolimit hg hT nT C G.T.bmain hobj hints (Nat.le_trans hlen hn2) hr hF hb (fun H hH hS => hsp H a ns hlen hbits hH hS) fun H e s' => noX w H s₁ e s'
end VG

set_option maxRecDepth 100000
/-! Calls by keywords alone; x in a tuple of data; data in a heap that has grown. -/
namespace VG
open PySem PySem.Spec PyProof.Rows L2
section
variable {X : Cx} {CX : CXT} {k : Nat} {f : Addr} {fd : FuncData} {ps ks : List Str} {sp : Sp} {E : XK} {x : Str} {p pos : Pos} {kws : List Keyword} {tk : TA} {g : List Value → List Value → List Value} {gV : List V → List V → List V}
/-- f(k = v, ..) -/
theorem pe_callN0 (F : FnOk X.prog X.w X.K X.mg X.base CX k f fd ps sp) (hr : Room k X.A) (hg : Gl X x) (hm : X.mg x = some (.ref f)) (hk : PySem.W.keepIn X.K (.ref f) = true) (hb : KBn X.K fd ps 0 ks g gV)
    (hx : Passes CX X E) (hkw : PK X kws tk) (n1 : (backToKw pos (keywordEach kws X.env)).all (·.1.isSome) = true := by rfl) (n2 : (backToKw pos (keywordEach kws X.env)).filterMap (·.1) = ks := by rfl)
    (n3 : (x == ("__debug__" : Str)) = false := by decide) (n4 : ((backTo pos (starEach [] X.env)).any (·.1) || (backToKw pos (keywordEach kws X.env)).any (·.1.isNone)) = false := by rfl) :
    PE X (.Call (.Name x p) [] kws pos) (tCallN 0 ks.length sp gV E tNil tk) :=
  ⟨fun pins s σ H Q I h => wpAny_Call_Name_kw (ld_glob I hg hm (PySem.W.callWith_KW0 (h₀ := X.base) I.ok.mod.kin hk n1 (thn (hkw.run pos pins s σ H _ I h) fun ws s2 ⟨zs, H2, I2, rz, l1, l2, q2⟩ =>
    ⟨I2.kIn, by rw [n2]; exact run_fnN (us := []) (vs := []) F hr hb hx I2 .nil rz l1 l2 q2⟩) n4) n3)⟩
end
/-! ### how keywords bind -/
section
variable {K : PySem.W.Frag} {x qual : Str} {params : Arguments} {body : List Stmt} {scope : Scope} {dvs : List V} {kws : List (Str × V)} {f : Addr} {fd : FuncData} {ps : List Str}
/-- some defaults, no keyword-only ones -/
theorem kbindsD (F : FunD K x qual params body scope dvs kws f fd) (n : Nat) (ks : List Str) (g : {α : Type} → List α → List α → List α → List α) (hd : dvs ≠ [])
    (hrel : ∀ {vs ds zs : List V} {us its ws : List Value}, Vals vs us → Vals ds its → Vals zs ws → Vals (g vs ds zs) (g us its ws))
    (h : ∀ (T : Addr) (kV doc pm : Value) (an : Option Addr) (cdv ct : Value) (us its ws : List Value), us.length = n → its.length = dvs.length → ws.length = ks.length →
      ∃ k, bindArgs (PySem.W.fnOf x qual params body scope (.ref T) kV doc pm an cdv ct) ⟨us, ks.zip ws⟩ = seqItems? (.ref T) >>= k ∧ k (some its.toArray) = pure (ps.zip (g us its ws))) :
    ∃ its : List Value, KBn K fd ps n ks (fun us ws => g us its ws) (fun vs zs => g vs dvs zs) := by
  obtain ⟨oc, od, dV, kV, doc, pm, an, cdv, ct, osl, rfl, lk, hcd, hD, hK⟩ := F.ex
  rcases hD with ⟨e, _⟩ | ⟨_, T, o, its, m, rfl, lT, oT, rT⟩
  · exact absurd e hd
  · refine ⟨its, fun s us ws X l1 l2 => BindsTo.of_looks fun M => ?_, fun r1 r2 => hrel r1 rT r2⟩
    obtain ⟨k, e1, e2⟩ := h T kV doc pm an cdv ct us its ws l1 rT.length.symm l2
    rw [e1]
    exact looks_items X lT oT (.of_pure e2)
/-- no defaults at all -/
theorem kbindsN (F : FunD K x qual params body scope [] kws f fd) (n : Nat) (ks : List Str) (g : {α : Type} → List α → List α → List α)
    (hrel : ∀ {vs zs : List V} {us ws : List Value}, Vals vs us → Vals zs ws → Vals (g vs zs) (g us ws))
    (h : ∀ (kV doc pm : Value) (an : Option Addr) (cdv ct : Value) (us ws : List Value), us.length = n → ws.length = ks.length →
      bindArgs (PySem.W.fnOf x qual params body scope .none kV doc pm an cdv ct) ⟨us, ks.zip ws⟩ = pure (ps.zip (g us ws))) : KBn K fd ps n ks (fun us ws => g us ws) (fun vs zs => g vs zs) := by
  obtain ⟨oc, od, dV, kV, doc, pm, an, cdv, ct, osl, rfl, lk, hcd, hD, hK⟩ := F.ex
  rcases hD with ⟨_, rfl⟩ | ⟨e, _⟩
  · exact ⟨fun s us ws _ l1 l2 => .of_eq (h kV doc pm an cdv ct us ws l1 l2), fun r1 r2 => hrel r1 r2⟩
  · exact absurd rfl e
theorem fun_of {st : Stmt} {f : Addr} {fd : FuncData} {kws : List (Str × V)} (F : FunD K x qual (defArgs st) (defBody st) (defScope st) [] kws f fd) : Fun K x qual st f fd := by
  obtain ⟨oc, od, dV, kV, doc, pm, an, cdv, ct, osl, e, lk, hcd, hD, hK⟩ := F.ex
  rcases hD with ⟨_, rfl⟩ | ⟨e, _⟩
  · exact ⟨⟨oc, od, kV, doc, pm, an, cdv, ct, osl, e, lk, hcd⟩, F.kp⟩
  · exact absurd rfl e
end
section
variable {X : Cx}
def rInT (K : PySem.W.Frag) (neg : Bool) : R2 := fun x y H Q => ∃ d ds, Dp K H x d ∧ Dp K H y (.tuple ds) ∧ SeqAt.shaped d = true ∧ SeqAt.shaped (.tuple ds) = true ∧
  Q (.bl (if neg then !ds.any fun z => PyData.eqv z d else ds.any fun z => PyData.eqv z d)) H
theorem room_inT {A : Around} {d : PyData} {xs : List PyData} (h : SeqAt.shaped d = true) (hu : A.units + 65 < cLine) : A.units + 1 + min (PyData.depthAll xs) d.depth < cLine := by
  have z := SeqAt.depth_of_shaped h
  have := Nat.min_le_right (PyData.depthAll xs) d.depth
  omega
theorem op_inT (hu : X.A.units + 65 < cLine) : OpR X (compareOp .In) (rInT X.K false) := by
  rintro pins s σ H x y v u Q I rx ry ⟨d, ds, hd, he, sd, se, q⟩
  obtain ⟨as, r1⟩ := Dp.reads I d x v hd rx
  obtain ⟨bs, r2⟩ := Dp.reads I (.tuple ds) y u he ry
  exact SeqAt.in_tuple_reads r2 r1 (SeqAt.canLay_of_shaped se) (SeqAt.canLay_of_shaped sd) (room_inT sd hu) ⟨.bl _, H, I, rfl, q⟩
theorem op_notInT (hu : X.A.units + 65 < cLine) : OpR X (compareOp .NotIn) (rInT X.K true) := by
  rintro pins s σ H x y v u Q I rx ry ⟨d, ds, hd, he, sd, se, q⟩
  obtain ⟨as, r1⟩ := Dp.reads I d x v hd rx
  obtain ⟨bs, r2⟩ := Dp.reads I (.tuple ds) y u he ry
  exact SeqAt.notIn_tuple_reads r2 r1 (SeqAt.canLay_of_shaped se) (SeqAt.canLay_of_shaped sd) (room_inT sd hu) ⟨.bl _, H, I, rfl, q⟩
end
theorem Same.tup {K : PySem.W.Frag} {H H' : Hp} {a : Addr} {xs : List V} (e : Same H H') (h : SqT K H a xs) : SqT K H' a xs := by
  rcases h with (h | ⟨o, h⟩) | h
  · exact .inl (.inl (e _ _ h))
  · exact .inl (.inr ⟨o, e _ _ h⟩)
  · exact .inr h
mutual
theorem Dp.same {K : PySem.W.Frag} {H H' : Hp} (e : Same H H') : ∀ (d : PyData) (v : V), Dp K H v d → Dp K H' v d
  | .none, _, h => by cases h; exact .non
  | .bool b, _, h => by cases h; exact .bl b
  | .int i, _, h => by cases h; exact .int i
  | .str x, _, h => by cases h; exact .str x
  | .list ds, _, h => by
    cases h with
    | lst a b => exact .lst (e.seq a) (DpAll.same e ds _ b)
  | .tuple ds, _, h => by
    cases h with
    | tup a b => exact .tup (Same.tup e a) (DpAll.same e ds _ b)
  | .dict _, _, h => by cases h
theorem DpAll.same {K : PySem.W.Frag} {H H' : Hp} (e : Same H H') : ∀ (ds : List PyData) (vs : List V), DpAll K H vs ds → DpAll K H' vs ds
  | [], _, h => by cases h; exact .nil
  | d :: ds, _, h => by
    cases h with
    | cons a b => exact .cons (Dp.same e d _ a) (DpAll.same e ds _ b)
end
end VG

set_option maxRecDepth 100000
/-! Own exceptions whose __init__ begins with super().__init__('..'). -/
namespace VG
open PySem PySem.Spec PyProof.Rows L2
open PySem.W (ksFn ksEnv)

/-! ### the wrapper that super().__init__ is, called -/
section
variable {prog : Program} {w : World} {A : Around} {E : Value → Shared → Prop} {h : Heap} {g : Array GenState} {d : Drawn} {t : Nat} {os : OsState} {nm q : Str} {C N : Addr} {bs bm : List Value} {hdct : Bool} {sn : List Str} {sub : List Value} {ab : Bool} {col : Option Bool} {dd : Option Addr}
  {k0 k1 k2 k3 k5 : Option Value} {B i newId : String} {bmB : List Value}
theorem call_mw (FB : ExcBaseFacts B newId i bmB) {u e t0 : Addr} {rest : List Value} {Q : Value → Shared → Prop} (hC : h.get? C = some (excClassObj nm q C N bs bm hdct sn sub ab col dd k0 k1 k2 k3 k5 newId)) (he : h.get? e = some (PySem.HandSPX.excO C t0))
    (hu : h.get? u = some (PySem.W.kxs_mw i e)) (hz : rest.length ≤ sizeLine)
    (hq : ∀ h' t1, (∀ b o, b ≠ e → h.get? b = some o → h'.get? b = some o) → h'.get? e = some (PySem.HandSPX.excO C t1) → Q .none ⟨h', g, d, t, os⟩) : wpAny (model prog w) A (call (.ref u) rest) Q E ⟨h, g, d, t, os⟩ := by
  refine wpAny_call (codeAny_of_tree ?_)
  show wpAny _ A.in1 (callAny (.ref u) ⟨rest, []⟩) _ _ _
  simp only [callAny]
  refine wpAny_bind (wpAny_load hu ?_)
  simp only [PySem.W.kxs_mw, show (Value.type "method-wrapper" == Value.type "method" || Value.type "method-wrapper" == Value.type "builtin_function_or_method" || Value.type "method-wrapper" == Value.type "method-wrapper") = true by decide, if_true]
  refine PySem.W.KFB.if_so (by decide) (wpAny_bind (PySem.W.check_bound_init FB.toExcCallFacts hC he rfl (wpAny_bind (wpAny_pure (wpAny_pure ⟨PySem.plainId_quiet FB.init.plain _, codeAny_builtin FB.initEntry ?_⟩)))))
  exact PySem.W.exc_init_tree (cls := .ref C) (t0 := t0) (dv := none) (c2 := .none) (c3 := .none) (b4 := .bool false) he hz fun h' k1 k2 _ => hq h' _ k1 k2
end

/-! ### the frame of such an __init__ -/
/-- no name of its own but the parameters; what it captures is its class alone -/
structure IniScope (ps : List Str) (sc : Scope) : Prop where
  kind : sc.kind = .function
  co : sc.isCoroutine = false
  gen : sc.isGenerator = false
  nd : ps.Nodup
  par : ∀ x ∈ ps, sc.names.lookup x = some .local
  noc : ∀ y ∈ sc.names, y.2 ≠ .cell
  fre : ∀ y ∈ sc.names, y.2 = .free → y.1 = "__class__"
  sup : sc.names.lookup ("super" : Str) = some .globalImplicit
  cls : sc.names.lookup ("__class__" : Str) = some .free
def iniCx (P : Program) (w : World) (K : PySem.W.Frag) (mg : Str → Option Value) (base : Heap) (ps : List Str) (qual : Str) (sc : Scope) (f cda cc : Addr) (A : Around) (outer : List Env) (s : Shared) (H : Hp) : Cx where
  prog := P
  w := w
  K := K
  mg := mg
  base := base
  A := A.deeper (ksEnv qual sc s.heap.objs.size f (.ref cda) cc)
  N := ps
  s_0 := s
  H_0 := H
  env := ksEnv qual sc s.heap.objs.size f (.ref cda) cc
  outer := outer
  stack := ksEnv qual sc s.heap.objs.size f (.ref cda) cc :: outer
  ex := []
  fn := fun _ => false
  calm := true
  pn := []
  xe := fun _ _ => False
theorem lookup_of_mem {x : Str} {u : Value} : ∀ {l : List (Str × Value)}, (l.map (·.1)).Nodup → (x, u) ∈ l → l.lookup x = some u
  | [], _, h => by cases h
  | (y, v) :: r, nd, h => by
    have nd' := List.nodup_cons.mp nd
    rcases List.mem_cons.mp h with e | h2
    · cases e
      simp [List.lookup]
    · have ne : (x == y) = false := by
        refine beq_eq_false_iff_ne.mpr fun z => nd'.1 ?_
        rw [← z]
        exact List.mem_map.mpr ⟨_, h2, rfl⟩
      rw [List.lookup_cons, ne]
      exact lookup_of_mem nd'.2 h2
theorem zip_keys : ∀ {ps : List Str} {us : List Value}, us.length = ps.length → (ps.zip us).map (·.1) = ps
  | [], [], _ => rfl
  | p :: ps, u :: us, h => by
    show p :: (ps.zip us).map (·.1) = p :: ps
    rw [zip_keys (by simpa using h)]
  | [], _ :: _, h => by cases h
  | _ :: _, [], h => by cases h
theorem zip_mem : ∀ {ps : List Str} {us : List Value} {i : Nat} {x : Str} {u : Value}, ps[i]? = some x → us[i]? = some u → (x, u) ∈ ps.zip us
  | [], _, _, _, _, h, _ => by simp at h
  | _ :: _, [], _, _, _, _, h => by simp at h
  | p :: ps, v :: us, 0, x, u, h1, h2 => by
    simp at h1 h2
    subst h1 h2
    exact List.mem_cons_self
  | p :: ps, v :: us, i + 1, x, u, h1, h2 => List.mem_cons_of_mem _ (zip_mem (i := i) (by simpa using h1) (by simpa using h2))
theorem cell_one {x : Str} {cc c : Addr} (h : ([("__class__", cc)] : List (Str × Addr)).lookup x = some c) : x = "__class__" ∧ c = cc := by
  rw [List.lookup_cons] at h
  cases e : (x == ("__class__" : Str)) with
  | true =>
    rw [e] at h
    exact ⟨beq_iff_eq.mp e, (Option.some.inj h).symm⟩
  | false =>
    rw [e] at h
    cases h
theorem ini_start {P : Program} {w : World} {K : PySem.W.Frag} {mg : Str → Option Value} {base : Heap} {ps : List Str} {qual : Str} {sc : Scope} {f cda cc : Addr} {A : Around} {outer : List Env} {s : Shared} {H : Hp} {us : List Value} {vs : List V} {h₁ : Heap} {tk : Nat} {oc : Obj} {v0 : Option Value}
    (S : IniScope ps sc) (hd : A.handled = none) (e0 : Env0 P w K mg base A outer s H) (hl : us.length = ps.length) (r : Vals vs us) (lc : K.lookup cc = some oc) (dc : oc.data = .cell v0)
    (hns : h₁.Ns s.heap.objs.size fun y => (ps.zip us).reverse.lookup y) (hk : ∀ b o, s.heap.get? b = some o → h₁.get? b = some o) :
    Inv (iniCx P w K mg base ps qual sc f cda cc A outer s H) [] (vs.map some) H { s with heap := h₁, toks := tk } := by
  have noA : ∀ b : Addr, b ∉ (iniCx P w K mg base ps qual sc f cda cc A outer s H).ex := fun b z => absurd (show b ∈ ([] : List Addr) from z) (by simp)
  have cb := e0.bs cc oc (e0.mod.kin cc oc lc)
  refine ⟨⟨e0.mod, S.kind, rfl, rfl, Nat.le_refl _, fun x y c h1 h2 => ?_, fun x hx => ?_, fun x c z _ => ?_, fun _ => hd, Around.frames_deeper e0.frames, .inr ⟨rfl, rfl⟩, fun b z => absurd z (noA b), e0.bs, e0.bsz, fun b _ _ => noA b, fun b z => absurd z (noA b), e0.funs, e0.frf⟩,
    rfl, e0.bare, Un.kept hk, ⟨_, hns, fun i x v h1 h2 h3 => ?_⟩, fun x c h => ?_, e0.hok.fresh (Nat.le_refl _), fun x c h => ?_, fun p hp => absurd (show p ∈ ([] : List (Addr × Obj)) from hp) (by simp), e0.hok.kept hk, ?_⟩
  · exact (cell_one h1).1.trans (cell_one h2).1.symm
  · have hx : sc.names.lookup x = some .cell ∨ sc.names.lookup x = some .free := hx
    rcases hx with z | z
    · exact absurd rfl (S.noc _ (PySem.mem_of_lookup z))
    · have e := S.fre _ (PySem.mem_of_lookup z) rfl
      have e : x = "__class__" := e
      subst e
      exact ⟨cc, show ([("__class__", cc)] : List (Str × Addr)).lookup ("__class__" : Str) = some cc by simp [List.lookup]⟩
  · have z : false = true := z
    cases z
  · have hi : i < vs.length := by
      by_cases z : i < vs.length
      · exact z
      · rw [List.getElem?_eq_none (by rw [List.length_map]; omega)] at h2
        cases h2
    have ha : vs[i]? = some v := by
      rw [List.getElem?_map] at h2
      cases e : vs[i]? with
      | none => rw [e] at h2; cases h2
      | some a => rw [e] at h2; cases h2; rfl
    obtain ⟨u, hu, rv⟩ := r.get ha
    have kl := S.par x (List.mem_of_getElem? h1)
    refine ⟨u, rv, .inl ⟨kl, ?_⟩⟩
    refine lookup_of_mem ?_ (List.mem_reverse.mpr (zip_mem h1 hu))
    rw [List.map_reverse, zip_keys hl]
    exact List.pairwise_reverse.mpr (S.nd.imp Ne.symm)
  · obtain ⟨_, rfl⟩ := cell_one h
    exact ⟨v0, oc, hk _ _ cb.1, dc⟩
  · obtain ⟨_, rfl⟩ := cell_one h
    exact cb.2
  · show (vs.map some).length = ps.length
    rw [List.length_map, r.length, hl]

/-! ### such an __init__ keeps a promise -/
/-- what the written part tells of the class at C, of its __init__ at f (its cell at cc, its code at cda) -/
structure IniTxt (P : Program) (K : PySem.W.Frag) (mg : Str → Option Value) (B i newId : String) (bmB : List Value) (C f cc cda : Addr) (qual : Str) (params : Arguments) (body : List Stmt) (sc : Scope) (fd : FuncData) : Prop where
  kf : PySem.W.KxsFacts B i
  fb : ExcBaseFacts B newId i bmB
  fn : ∃ oc od dV kV doc pm an ct osl, fd = ksFn "__init__" qual params body sc dV kV doc pm an (.ref cda) ct cc ∧ K.lookup f = some ⟨oc, od, .func fd, osl⟩
  code : PySem.W.codeIn K (.ref cda) qual = true
  file : ∃ ccl cdd vs ccs tf, K.lookup cda = some ⟨ccl, cdd, .fields vs, ccs⟩ ∧ vs[2]? = some (.str P.main.file tf)
  cell : ∃ cl cld csl, K.lookup cc = some ⟨cl, cld, .cell (some (.ref C)), csl⟩
  cls : ∃ nm q N bs bm hdct sn sub ab col dd k0 k1 k2 k3 k5, K.lookup C = some (excClassObj nm q C N bs bm hdct sn sub ab col dd k0 k1 k2 k3 k5 newId)
  up : PySem.W.ks_superIn K C C "__init__" = some (some (.builtin i))
  isB : PySem.W.subIn K (.ref C) (.type B) = some true
  self : PySem.W.mroIn K C (.ref C) = some true
  opq : PySem.W.nsIn K cStatics "thirdparty.any" = some none
  sup : mg "super" = none
  top : (P.main.scope.names.lookup ("super" : Str)).isSome = false
abbrev superInit (p0 p1 p2 p3 p4 p5 : Pos) (j : Nat) (z : Str) : Stmt := .Expr (.Call (.Attribute (.Call (.Name "super" p0) [] [] p1) "__init__" p2) [.Constant (.str z) j p3] [] p4) p5
def spIni (C : Addr) (t : TS) : Sp := fun vs H Q _ => ∃ (a : Addr) (ws : List V), vs = .ref a :: ws ∧ H a = some (exo a C none) ∧ t { nx := fun _ H' => Q .non H', rt := Q } (vs.map some) H
section
variable {P : Program} {w : World} {K : PySem.W.Frag} {mg : Str → Option Value} {base : Heap} {B i newId : String} {bmB : List Value} {C f cc cda : Addr} {qual : Str} {params : Arguments} {rest : List Stmt} {sc : Scope} {fd : FuncData} {ps : List Str} {p0 p1 p2 p3 p4 p5 : Pos} {j k : Nat} {z : Str} {self : Arg} {sp : Sp}
/-- how super().__init__('..') is run, where it stands on one line -/
def SupEv (p0 p1 p2 p3 p4 : Pos) (j : Nat) (z : Str) : Prop := ∀ env : Env, ∃ pl : Sem Bool, eval (.Call (.Attribute (.Call (.Name "super" p0) [] [] p1) "__init__" p2) [.Constant (.str z) j p3] [] p4) env = (do
  let ov ← attributeBase (.Call (.Name "super" p0) [] [] p1) "__init__" env (eval (.Call (.Name "super" p0) [] [] p1) env)
  standAt p2.atName
  let (f, first) ← holding [ov] (getMethod ov "__init__" pl)
  callWith p4 f first (backTo p4 (starEach [.Constant (.str z) j p3] env)) [])
theorem ini_ok (hev : SupEv p0 p1 p2 p3 p4 j z) (T : IniTxt P K mg B i newId bmB C f cc cda qual params (superInit p0 p1 p2 p3 p4 p5 j z :: rest) sc fd) (S : IniScope ps sc) (hself : (params.posonlyargs ++ params.args).head? = some self) (hp0 : ps[0]? = some self.arg)
    (many : ∀ vs H Q E, sp vs H Q E → vs.length = ps.length)
    (body : ∀ (A : Around) (outer : List Env) (s : Shared) (H : Hp) (vs : List V) (Q : VK) (E : XK), Room k (A.deeper (ksEnv qual sc s.heap.objs.size f (.ref cda) cc)) → sp vs H Q E →
      ∃ a ws, vs = .ref a :: ws ∧ H a = some (exo a C none) ∧ ∃ t, PSs (iniCx P w K mg base ps qual sc f cda cc A outer s H) rest t ∧ t { nx := fun _ H' => Q .non H', rt := Q } (vs.map some) H) :
    FnOk P w K mg base CX0 (k + 1) f fd ps sp := by
  obtain ⟨oc, od, dV, kV, doc, pm, an, ct, osl, rfl, lk⟩ := T.fn
  obtain ⟨ccl, cdd, cvs, ccs, tf, lcode, hfile⟩ := T.file
  obtain ⟨cl, cld, csl, lcell⟩ := T.cell
  obtain ⟨nm, q, N, bs, bm, hdct, sn, sub, ab, col, dd, k0, k1, k2, k3, k5, lC⟩ := T.cls
  refine ⟨many, fun A outer s H args us vs Q E hr e0 hb r hsp => ?_⟩
  have KX : K.In s.heap := e0.mod.kin.keeps fun b o e => (e0.bs b o e).1
  have lim : s.heap.NoLimit := e0.mod.nolimit.keeps fun b o e => (e0.bs b o e).1
  have hl : us.length = ps.length := r.length.symm.trans (many _ _ _ _ hsp)
  refine PySem.ks_codeAny_call_defAt (body := superInit p0 p1 p2 p3 p4 p5 j z :: rest) (binds := ps.zip us) hr.depth (KX _ _ lk) rfl lim (PySem.W.codeRec_of KX T.code) rfl hb S.noc (fun y hy => S.par y.1 (List.of_mem_zip hy).1) (fun h₁ hns hk => ?_) S.co S.gen S.kind
  obtain ⟨a, ws, rfl, hea, t, ht, hq⟩ := body A outer s H vs Q E (hr.deeper _) hsp
  have I : Inv (iniCx P w K mg base ps qual sc f cda cc A outer s H) [] ((V.ref a :: ws).map some) H { s with heap := h₁, toks := s.toks + (ps.zip us).length } := ini_start S hr.hd e0 hl r lcell rfl hns hk
  have hu0 : us[0]? = some (.ref a) := by
    obtain ⟨u, h1, h2⟩ := r.get (i := 0) (x := .ref a) rfl
    rw [h1]
    exact congrArg some h2
  have hself' : (ps.zip us).reverse.lookup self.arg = some (.ref a) := by
    refine lookup_of_mem ?_ (List.mem_reverse.mpr (zip_mem hp0 hu0))
    rw [List.map_reverse, zip_keys hl]
    exact List.pairwise_reverse.mpr (S.nd.imp Ne.symm)
  have fin : ∀ {σ' : L2.St} {H' : Hp} {v : V} {u : Value} {s' : Shared}, Inv (iniCx P w K mg base ps qual sc f cda cc A outer s H) [] σ' H' s' → RelV v u → Q v H' → CE outer P w H s Q u s' := fun J rv q => ⟨_, _, J.os, J.bare, J.base, J.hok, rv, q⟩
  have X1 := I.kIn
  obtain ⟨mb, hmb, hbb⟩ := I.mod.blt
  obtain ⟨t0, hoe⟩ := exo_at I.hok hea
  have hC1 := X1 _ _ lC
  have hcd : PySem.W.clsIn K C = some { name := nm, bases := bs, mro := .ref C :: bm, ns := N, qualname := q, hasDict := hdct, slotNames := sn, subclasses := sub, abstract := ab, collection := col, hasDel := false } := by
    unfold PySem.W.clsIn
    rw [lC] <;> rfl
  have hint : interactive (ksEnv qual sc s.heap.objs.size f (.ref cda) cc) = false := by
    unfold interactive
    simp [S.kind]
  obtain ⟨pl, he⟩ := hev (ksEnv qual sc s.heap.objs.size f (.ref cda) cc)
  refine PySem.ks_wpAt_execs_cons (PySem.ks_wpAt_Expr_any (PySem.ks_wpAt_MethodCall (pl := pl) ?_ he) hint)
  refine PySem.ks_wpAt_super_base (env := ksEnv qual sc s.heap.objs.size f (.ref cda) cc) S.sup S.cls (by decide) rfl (X1 _ _ lk) rfl hself rfl (X1 _ _ lcode) rfl hfile (beq_self_eq_true _) T.top ?_
  refine PySem.W.ks_loadName_global S.kind S.sup (Calls.loadGlobal_builtin (env := ksEnv qual sc s.heap.objs.size f (.ref cda) cc) (I.mod.glob.keeps I.bk) T.sup (hmb.keeps I.bk) ((hbb "super" (by decide +kernel)).trans PyProof.Rows.Boot.«super») ⟨rfl, ?_⟩)
  refine wpAny_loadName_free S.kind S.cls rfl ⟨_, X1 _ _ lcell, rfl⟩ ?_
  refine wpAny_loadName_local S.kind (S.par _ (List.mem_of_getElem? hp0)) hns hself' ?_
  refine PySem.ks_wpAny_isType_cls hC1 rfl ⟨rfl, ?_⟩
  refine PySem.ks_wpAny_call_super hC1 rfl hoe rfl (fun c e => by cases e) (PySem.W.looks_mroIn X1 T.self) (fun h2 e2 k2 => ?_)
  have I2 := I.kept (t' := s.toks + (ps.zip us).length) k2
  have X2 := I2.kIn
  have hoe2 := k2 _ _ hoe
  have J2 : PySem.W.InstAt h2 a (PySem.HandSPX.excO C t0) C none := ⟨hoe2, rfl, rfl, trivial⟩
  have hup : PySem.W.alongIn K "__init__" (((Value.ref C :: bm).dropWhile (· != .ref C)).drop 1) = some (some (.builtin i)) := by
    have z := T.up
    unfold PySem.W.ks_superIn at z
    rw [hcd] at z
    exact z
  have haC : a ≠ C := fun z => by
    have n := (I.bs C _ (I.mod.kin _ _ lC)).2
    rw [← z, hea] at n
    cases n
  refine PySem.W.kxs_getMethod T.kf e2 (PySem.W.looks_opaque X2 T.opq) (l₀ := .ref C :: bm) (fun A Q E s k q => wpAny_bind ((PySem.W.looks_clsIn X2 hcd) A _ E s k (wpAny_pure q))) rfl X2 hup (J2.type.andThen (PySem.W.looks_subIn X2 T.isB)) haC (by decide) ?_
  have I3 : Inv (iniCx P w K mg base ps qual sc f cda cc A outer s H) [(h2.objs.size, PySem.W.kxs_mw i a)] ((V.ref a :: ws).map some) H ⟨h2.push (PySem.W.kxs_mw i a), s.gens, s.drawn, s.toks + (ps.zip us).length + 1, s.os⟩ :=
    ClX.pin_new (s := ⟨h2, s.gens, s.drawn, s.toks + (ps.zip us).length, s.os⟩) (t' := s.toks + (ps.zip us).length + 1) I2 (fun b o e => Heap.get?_push_of_some _ e) (Nat.le_refl _) (Heap.get?_push_size _ rfl) (fun v z => nomatch z)
  refine PySem.W.kxs_callWith (i := i) (x := a) rfl (PySem.Calls.evalArgs_plain ?_)
  have PA1 : PA (iniCx P w K mg base ps qual sc f cda cc A outer s H) [.Constant (.str z) j p3] (tCons (tC (.str z)) tNil) := pa_cons pe_str pa_nil
  refine thnF (PA1.run p4 _ _ ((V.ref a :: ws).map some) H (fun vs H' => vs.length ≤ 1 ∧ H' = H) I3 ⟨Nat.le_refl _, rfl⟩) fun us4 s4 ⟨vs4, H4, I4, r4, l4, e4⟩ => ?_
  subst e4
  refine ⟨ClX.pin_at I4, ?_⟩
  have X4 := I4.kIn
  obtain ⟨t4, hoe4⟩ := exo_at I4.hok hea
  obtain ⟨g4, gs4, d4, tk4, os4⟩ := s4
  refine call_mw T.fb (X4 _ _ lC) hoe4 (ClX.pin_at I4) (by show us4.length ≤ sizeLine; rw [← r4.length, sizeLine_eq]; omega) fun h5 t5 k5 e5 => ?_
  have I5 := (ClX.unpin I4).write (t' := tk4) (x := a) (e := a) (o := exo a C none) (by rw [hea]; exact True.intro) (.inl rfl) k5 ⟨_, e5⟩ (exo_ok e5)
  have eu : upd H4 a (exo a C none) = H4 := by
    funext b
    by_cases hb : b = a
    · rw [hb, upd_same, hea]
    · rw [upd_ne hb]
  rw [eu] at I5
  refine wpAt_of_wpAny (thnF (ht.run [] _ _ _ _ I5 hq) fun fl s' hs => ?_)
  match fl, hs with
  | .ret u, hs =>
    obtain ⟨v, σ', H', J, rv, q⟩ := hs
    exact fin J rv q
  | .next, hs =>
    obtain ⟨σ', H', J, q⟩ := hs
    exact fin (v := V.non) (u := Value.none) J rfl q
  | .brk, hs =>
    obtain ⟨_, _, _, q⟩ := hs
    exact False.elim q
  | .cont, hs =>
    obtain ⟨_, _, _, q⟩ := hs
    exact False.elim q
end
end VG

set_option maxRecDepth 100000
/-! The name of an exception's class; errors that keep what they were given. -/
namespace VG
open PySem PySem.Spec PyProof.Rows L2

/-! ### o.__class__ of an own exception, C.__name__ of an own class -/
structure ClsTxt (K : PySem.W.Frag) (C : Addr) (nm : Str) : Prop where
  ga : PySem.W.findIn K (.ref C) "__getattribute__" = some (some (.builtin "BaseException.__getattribute__"))
  gg : PySem.W.findIn K (.ref C) "__getattr__" = some none
  exC : PySem.W.subIn K (.ref C) (.type "BaseException") = some true
  isC : (PySem.W.clsIn K C).isSome = true
  ca : PySem.W.findIn K (.ref C) "__class__" = some (some (.builtin "object.__class__"))
  cn : PySem.W.specialIn K (.builtin "object.__class__") "__get__" = some (some (.builtin "getset_descriptor.__get__"))
  ct : PySem.W.takesIn K (.builtin "object.__class__") = some true
  cm : PySem.W.mroIn K C (.type "object") = some true
  rd : PySem.W.readsIn K C (.type "type") = true
  na : PySem.W.findCls K (.ref C) (.type "type") "__name__" = some (.get (.builtin "getset_descriptor.__get__") (.builtin "type.__name__") (.ref C) (.type "type"))
  ty : PySem.W.typeIn K (.ref C) = some (.type "type")
  nm : ∃ oc od dt sl tk, K.lookup C = some ⟨oc, od, dt, sl⟩ ∧ sl[2]? = some (some (.str nm tk))
section
variable {prog : Program} {w : World} {A : Around} {E : Value → Shared → Prop} {s : Shared} {K : PySem.W.Frag} {C x : Addr} {nm : Str} {ox : Obj} {od : Option Obj}
theorem find_class (T : ClsTxt K C nm) : PySem.W.findObj K C od "__class__" = some (.bind (.builtin "getset_descriptor.__get__") (.builtin "object.__class__")) := by
  obtain ⟨cd, hc⟩ := Option.isSome_iff_exists.mp T.isC
  unfold PySem.W.findObj
  rw [hc, Option.bind_some, T.ca, Option.bind_some]
  simp [T.cn, T.ct]
theorem get_class {expr : Bool} {Q : Value → Shared → Prop} (T : ClsTxt K C nm) (X : K.In s.heap) (I : PySem.W.InstAt s.heap x ox C od) (h : Q (.ref C) { s with toks := s.toks + 1 }) : wpAny (model prog w) A (getAttr (.ref x) "__class__" expr) Q E s := by
  obtain ⟨hp, g, d, t, os⟩ := s
  have ty := I.type (M := model prog w)
  have own : (onTheHeap (Value.ref C) && Value.builtin "BaseException.__getattribute__" == Value.builtin "object.__getattribute__") = false := by
    rw [show (Value.builtin "BaseException.__getattribute__" == Value.builtin "object.__getattribute__") = false by decide +kernel, Bool.and_false]
  have plain : (expr && onTheHeap (Value.builtin "BaseException.__getattribute__")) = false := by cases expr <;> rfl
  unfold getAttr getAttrBy
  refine wpAny_bind (wpAny_mkText (wpAny_holding (wpAny_bind (ty.at (wpAny_bind ((PySem.W.looks_findIn X T.ga).at ?_))))))
  dsimp only
  rw [own, if_neg (by decide)]
  unfold getAttrByItsOwn hookBefore
  refine wpAny_bind ?_
  rw [if_pos (show onTheHeap (Value.ref C) = true from rfl)]
  refine (PySem.W.looks_findIn X T.gg).at (wpAny_bind (wpAny_attempt (wpAny_holding ?_)))
  unfold callGetattribute
  rw [plain, if_neg (by decide)]
  unfold boundAndCalled
  rw [PySem.F.excAttr_ValueError.ga.bind (.ref x)]
  refine wpAny_bind (wpAny_pure (wpAny_call (codeAny_call_builtin PySem.F.excAttr_ValueError.ga.plain PySem.F.entry_bexc_ga ?_)))
  refine @PySem.W.check_slot (model prog w) _ _ ⟨hp, g, d, t + 1, os⟩ "BaseException.__getattribute__" "BaseException" "__getattribute__" (.ref x) [.str "__class__" t] [] _ (by decide +kernel) (by decide +kernel)
    (ty.andThen (PySem.W.looks_subIn X T.exC)) (PySem.F.args_bexc_ga (.ref x) (.str "__class__" t)) ?_
  unfold Builtin.«object.__getattribute__»
  refine wpAny_bind (wpAny_of_eq (a := ((Value.ref x : Value), [Value.str "__class__" t])) (by first | rfl | (simp only [slotArgs]; rfl)) ?_)
  refine wpAny_bind (wpAny_pure (wpAny_bind (ty.at (wpAny_bind ((PySem.W.looks_find X I (find_class T)).at ?_)))))
  refine wpAny_bind (wpAny_holding (wpAny_call (PySem.W.class_get (s := ⟨hp, g, d, t + 1, os⟩) X I T.cm ?_)))
  refine wpAny_pure ?_
  exact PySem.W.handed_on (v := .ref C) rfl h
theorem get_name {expr : Bool} {Q : Value → Shared → Prop} (T : ClsTxt K C nm) (X : K.In s.heap) (h : ∀ tk, Q (.str nm tk) { s with toks := s.toks + 1 }) : wpAny (model prog w) A (getAttr (.ref C) "__name__" expr) Q E s := by
  obtain ⟨oc, od, dt, sl, tk, lC, hsl⟩ := T.nm
  refine PySem.W.cls_bind X T.rd T.na ?_
  obtain ⟨hp, g, d, t, os⟩ := s
  have hC := X _ _ lC
  have ty : PySem.W.Looks (model prog w) hp (typeOf (.ref C)) (.type "type") := PySem.W.looks_typeIn X T.ty
  have L1 : PySem.W.Looks (model prog w) hp (isSubtype (.type "type") (.type "type")) true := PySem.W.Looks.of_pure (by rw [isSubtype_type]; kernel_rfl)
  refine wpAny_call (codeAny_call_builtin PySem.W.KF.slot_gs.plain PySem.W.KF.entry_gs (PySem.W.KF.slot_gs.check _ _ _ _ _ _ _ _ PySem.W.ktyn_type (PySem.W.KF.args_gs _ _ _) ?_))
  unfold Builtin.«getset_descriptor.__get__» Builtin.Getset_descriptor.descrGet
  rw [PySem.W.dga_obj]
  refine wpAny_bind (wpAny_pure ?_)
  unfold Builtin.Getset_descriptor.descrGetter Builtin.Getset_descriptor.descrCheckInstance Builtin.Getset_descriptor.descrNameAndClass isInstance
  simp only [PySem.W.ktyn_owner]
  repeat lk
  refine ⟨Code.quiet_builtin _ (by decide +kernel), codeAny_builtin PySem.W.ktyn_entry ?_⟩
  unfold Builtin.«type.__name__» Builtin.keptObject slotAt
  dsimp only
  refine wpAny_bind (wpAny_bind (wpAny_bind (wpAny_loadPart_at hC (wpAny_pure ?_))))
  rw [hsl]
  exact wpAny_pure (wpAny_pure (PySem.W.handed_on (v := .str nm tk) rfl (h tk)))
end
/-- o.__class__.__name__, o an exception that is being made -/
def tClsName (K : PySem.W.Frag) (to : TE) : TE := fun σ H Q => to σ H fun x H1 => ∃ (a C : Addr) (nm : Str), x = .ref a ∧ ClsTxt K C nm ∧ (H1 a = some (exo a C none) ∨ ∃ (dx : Addr) (fs : List (Str × V)), H1 a = some (exo a C (some dx)) ∧ H1 dx = some (exd dx fs)) ∧ Q (.str nm) H1
theorem pe_clsName {X : Cx} {o : Expr} {to : TE} {p1 p2 : Pos} (ho : PE X o to) (b1 : attributeBase o "__class__" X.env (eval o X.env) = eval o X.env := by rfl)
    (b2 : attributeBase (.Attribute o "__class__" p1) "__name__" X.env (eval (.Attribute o "__class__" p1) X.env) = eval (.Attribute o "__class__" p1) X.env := by rfl) :
    PE X (.Attribute (.Attribute o "__class__" p1) "__name__" p2) (tClsName X.K to) := by
  refine ⟨fun pins s σ H Q I h => ?_⟩
  refine attr_of b2 (attr_of b1 (thn (ho.run pins s σ H _ I h) fun u s1 ⟨x, H1, I1, rx, a, C, nm, ex, T, hea, q⟩ => ?_))
  subst ex
  obtain rfl : u = Value.ref a := rx
  have fin : ∀ {ox : Obj} {od : Option Obj}, PySem.W.InstAt s1.heap a ox C od → wpAny (model X.prog X.w) X.A (getAttr (.ref a) "__class__" true) (fun o s₁ => wpAny (model X.prog X.w) X.A (getAttr o "__name__" true) (EP X pins σ Q) X.xe s₁) X.xe s1 := fun J =>
    get_class T I1.kIn J (get_name T (I1.tok _).kIn fun tk => ⟨.str nm, H1, (I1.tok _).tok _, ⟨tk, rfl⟩, q⟩)
  rcases hea with e | ⟨dx, fs, e, ed⟩
  · obtain ⟨t1, ho1⟩ := exo_at I1.hok e
    exact fin (od := none) ⟨ho1, rfl, rfl, trivial⟩
  · obtain ⟨t1, ho1⟩ := exo_at I1.hok e
    obtain ⟨mA, hns, rel⟩ := exd_at I1.hok ed
    obtain ⟨oD, _, _, hoD, _, _⟩ := hns.count (within_of rel)
    exact fin (od := some oD) ⟨ho1, rfl, rfl, hoD⟩
end VG

set_option maxRecDepth 100000
/-! try: .. except (A, B, C) as n: .. -/
namespace VG
open PySem PySem.Spec PyProof.Rows L2

theorem flying_kept {B h h' : Heap} {l : List Env} {a : Addr} {Z : Obj → Prop} (k : ∀ b o, h.get? b = some o → h'.get? b = some o) (x : HandSPX.FlyingZ B l a Z h) : HandSPX.FlyingZ B l a Z h' := by
  obtain ⟨st, nb, ff, oe, vs, T, oT, ts, h1, h2, h3, h4, h5, h6, h7, h8, h9⟩ := x
  exact ⟨fun b o e => k b o (st b o e), nb, ff.of_keeps fun b o e _ => ⟨o, k b o e, rfl⟩, oe, vs, T, oT, ts, k _ _ h1, h2, h3, h4, h5, h6, k _ _ h7, h8, h9⟩
/-- what such a clause wishes of an exception of the body (one of another class is not looked at here) -/
def wAs3 (K : PySem.W.Frag) (cs : List Value) (i n : Nat) (ts : Addr → Value → Option Addr → TS) (D : Ends) : WX := fun cls d σ H => PySem.W.exmAny K cls cs = some true ∧
  ∀ a, H a = none → σ.length = n → ts a cls d { nx := fun σ' H' => D.nx (σ'.set i none) H', rt := D.rt, bk := fun σ' H' => D.bk (σ'.set i none) H', ct := fun σ' H' => D.ct (σ'.set i none) H' } (σ.set i (some (.ref a))) H
section
variable {X : Cx} {x1 x2 x3 n : Str} {c1 c2 c3 : Value} {i j : Nat} {body suite : List Stmt} {b₀ : Stmt} {q1 q2 q3 tpos pos pos' : Pos} {tb : WX → TS} {ts : Addr → Value → Option Addr → TS}
theorem name_at {pins : List (Addr × Obj)} {σ : L2.St} {H : Hp} {s : Shared} {x : Str} {c : Value} {p : Pos} {E : Value → Shared → Prop} {Q : Value → Shared → Prop} (I : Inv X pins σ H s) (hc : Names X x c) (q : Q c s) : wpAny (model X.prog X.w) X.A (eval (.Name x p) X.env) Q E s := by
  obtain ⟨hg, hd, hm | ⟨hm, hv, hn⟩⟩ := hc
  · exact ld_glob I hg hm q hd
  · exact ld_blt I hg hm hv q hn hd
theorem ps_try_as3 (hs : X.stack = X.env :: X.outer) (hf : X.env.frame = some X.env.locals) (hN : X.N.Nodup) (hi : X.N[i]? = some n) (hln : X.env.kindOf n = some .local) (n1 : Names X x1 c1) (n2 : Names X x2 c2) (n3 : Names X x3 c3)
    (hb : ∀ (W : WX) (pn : List (Addr × Obj)) (xe : Value → Shared → Prop), Takes (X.tr pn xe) W → PassesOwn (model X.prog X.w) X.A X.env xe → PSs (X.tr pn xe) body (tb W))
    (hsu : ∀ (a : Addr) (oe : Obj) (cls : Value) (d : Option Addr) (pn : List (Addr × Obj)), Zc cls d oe → (∃ vs, oe.data = .fields vs) → PSs (X.suite a ((a, oe) :: pn)) (b₀ :: suite) (ts a cls d)) :
    PS X (.Try body [.ExceptHandler (some (.Tuple [.Name x1 q1, .Name x2 q2, .Name x3 q3] j tpos)) (some n) (b₀ :: suite) pos'] [] [] pos) (fun D σ H => tb (wAs3 X.K [c1, c2, c3] i X.N.length ts D) D σ H) := by
  refine ⟨fun pins s σ H D I h => ?_⟩
  have ok := I.ok
  have hfr : X.A.frames = some (X.env :: X.outer) := by rw [ok.frames, hs]
  have loc : Loc X.env.scope n := .inl hln
  refine wpAny_Try_except (wpAny_mono ((hb (wAs3 X.K [c1, c2, c3] i X.N.length ts D) (X.pn ++ pins) (fun e s₁ => wpAny (model X.prog X.w) X.A (noteFrame e X.env) (fun _ s₂ => wpAny (model X.prog X.w) X.A (setFlight e none) (fun _ s₃ =>
    wpAny (model X.prog X.w) X.A (handleBy e X.env [.ExceptHandler (some (.Tuple [.Name x1 q1, .Name x2 q2, .Name x3 q3] j tpos)) (some n) (b₀ :: suite) pos']) (SP X pins D) X.xe s₃) X.xe s₂) X.xe s₁) (fun u s' xx => ?_) PassesOwn.looking).run [] s σ H D (I.toTry _) h)
    (fun f s1 hsp => ?_) (fun e s1 he => he))
  · obtain ⟨a, B, sI, pins', σ', H', cls, d, rfl, J', nb, up, sky, na, os, ag, yes, go⟩ := xx
    have J : Inv X pins σ' H' sI := J'.ofTry ok
    refine Sky.land Zc.steady hfr hf (show Sky B (X.env :: X.outer) a (Zc cls d) X.env.locals s'.heap by rw [← hs]; exact sky) fun h3 fl3 up3 => ?_
    have J3 : Inv X pins σ' H' { s' with heap := h3 } := J.landed nb fl3.1 (up.trans up3) os ag
    obtain ⟨oe3, vs3, he3, hz3, hd3⟩ := fl3.there
    have nfr : a ∉ frs (X.env :: X.outer) := fun hm => by
      obtain ⟨_, o', e', z⟩ := fl3.2.2.1.mem hm
      rw [he3] at e'
      cases e'
      exact z _ hd3
    have nL : a ≠ X.env.locals := fun z => nfr (List.mem_filterMap.mpr ⟨X.env, List.mem_cons_self, by rw [hf, z]⟩)
    have nF : a ∉ X.fs := fun hm => by
      obtain ⟨e, he, q⟩ := List.mem_filterMap.mp hm
      exact nfr (List.mem_filterMap.mpr ⟨e, List.mem_cons_of_mem _ he, q⟩)
    have S3 := J3.suite he3 hd3 na nL nF
    have up13 := up.trans up3
    refine wpAny_handleBy_cons (codeAny_handlers_test ?_) (by intro q; cases q)
    refine wpAny_Tuple (wpAny_items_cons (name_at (X := X.suite a ((a, oe3) :: (X.pn ++ pins))) S3 n1 (wpAny_items_cons (name_at (X := X.suite a ((a, oe3) :: (X.pn ++ pins))) S3 n2 (wpAny_items_cons (name_at (X := X.suite a ((a, oe3) :: (X.pn ++ pins))) S3 n3 (wpAny_items_nil ⟨by size_fits, ?_⟩)))))))
    have kp : ∀ q o, h3.get? q = some o → (h3.push { cls := .type "tuple", data := .seq [c1, c2, c3].toArray }).get? q = some o := fun _ _ z => Heap.get?_push_of_some _ z
    have ty : PySem.W.Looks (model X.prog X.w) (h3.push { cls := .type "tuple", data := .seq [c1, c2, c3].toArray }) (typeOf (.ref a)) cls := fun A Q E s k q => wpAny_typeOf_ref (k _ _ (kp _ _ he3)) (by rw [hz3.1]; exact q)
    have fl4 := flying_kept kp fl3
    have up4 : h3.UpToSlots (h3.push { cls := .type "tuple", data := .seq [c1, c2, c3].toArray }) := .of_keeps kp
    have J4 : Inv X pins σ' H' { s' with heap := h3.push { cls := .type "tuple", data := .seq [c1, c2, c3].toArray } } := J.landed nb fl4.1 (up13.trans up4) os ag
    refine (PySem.W.exm_tup3 J4.kIn ty (Heap.get?_push_size h3 rfl) yes).here ?_
    refine codeAny_handlers_suite_as (HandSPX.lands_againZ fl4 fun h5 fl5 up5 => ?_)
    have J5 : Inv X pins σ' H' { s' with heap := h5 } := J.landed nb fl5.1 ((up13.trans up4).trans up5) os ag
    obtain ⟨oe5, vs5, he5, hz5, hd5⟩ := fl5.there
    have S5 := J5.suite he5 hd5 na nL nF
    refine store_ok (X := X.suite a ((a, oe5) :: (X.pn ++ pins))) (v := .ref a) S5 hN hi loc rfl (fun s6 S6 => ?_) (.inr hln)
    refine wpAny_mono ((hsu a oe5 cls d (X.pn ++ pins) hz5 ⟨_, hd5⟩).run [] s6 _ H' _ S6 (go a na J.len)) (fun f s7 hsp => ?_) (fun _ _ z => False.elim z)
    have fin : ∀ {σ7 : L2.St} {H7 : Hp} {Q : Shared → Prop}, Inv (X.suite a ((a, oe5) :: (X.pn ++ pins))) [] σ7 H7 s7 → (∀ s8, Inv X pins (σ7.set i none) H7 s8 → Q s8) →
        wpAny (model X.prog X.w) X.A (do bindName X.env n .none; unbindBehindTheSuite X.env n pos') (fun _ s8 => Q s8) X.xe s7 := fun S7 q => gone_ok (S7.unsuite ok) hN hi hln q
    match f, hsp with
    | .next, ⟨_, _, S7, q⟩ => exact fin S7 fun s8 J8 => ⟨_, _, J8, q⟩
    | .brk, ⟨_, _, S7, q⟩ => exact fin S7 fun s8 J8 => ⟨_, _, J8, q⟩
    | .cont, ⟨_, _, S7, q⟩ => exact fin S7 fun s8 J8 => ⟨_, _, J8, q⟩
    | .ret u, ⟨v, _, _, S7, r, q⟩ => exact fin S7 fun s8 J8 => ⟨_, _, _, J8, r, q⟩
  · match f, hsp with
    | .next, ⟨σ', H', J', q⟩ => exact wpAny_execs_nil ⟨σ', H', J'.ofTry ok, q⟩
    | .brk, ⟨σ', H', J', q⟩ => exact ⟨σ', H', J'.ofTry ok, q⟩
    | .cont, ⟨σ', H', J', q⟩ => exact ⟨σ', H', J'.ofTry ok, q⟩
    | .ret u, ⟨v, σ', H', J', r, q⟩ => exact ⟨v, σ', H', J'.ofTry ok, r, q⟩
end
end VG

set_option maxRecDepth 100000
/-! A def that is called within a suite with the exception that is in hand; it reads its fields and raises nothing. -/
namespace VG
open PySem PySem.Spec PyProof.Rows L2
open L2H (RoomH PinOk cxH inv_startH)
/-- p: the exception's address and its object -/
structure FnE (P : Program) (w : World) (K : PySem.W.Frag) (mg : Str → Option Value) (base : Heap) (CX : CXT) (k : Nat) (f : Addr) (fd : FuncData) (ps : List Str) (sp : Addr × Obj → Sp) : Prop where
  many : ∀ p vs H Q E, sp p vs H Q E → vs.length = ps.length
  runs : ∀ (A : Around) (outer : List Env) (s : Shared) (H : Hp) (args : Args) (us : List Value) (vs : List V) (Q : VK) (E : XK) (p : Addr × Obj), RoomH k A → PinOk outer H s p → Env0 P w K mg base A outer s H →
    BindsTo s fd args (ps.zip us) → Vals vs us → sp p vs H Q E → codeAny (model P w) A (.call (.ref f) args) (CR CX outer P w H s Q E) s
section
variable {P : Program} {w : World} {K : PySem.W.Frag} {mg : Str → Option Value} {base : Heap}
theorem okE {x qual : Str} {st : Stmt} {f : Addr} {fd : FuncData} {N ps : List Str} {k : Nat} {sp : Addr × Obj → Sp} (F : Fun K x qual st f fd) (S : FnScope N ps (defScope st)) (many : ∀ p vs H Q E, sp p vs H Q E → vs.length = ps.length)
    (body : ∀ (cdv : Value) (A : Around) (outer : List Env) (s : Shared) (H : Hp) (vs : List V) (Q : VK) (E : XK) (p : Addr × Obj), RoomH k (A.deeper (envOfC qual (defScope st) s.heap.objs.size f cdv)) → sp p vs H Q E →
      ∃ t, PSs (cxH CX0 P w K mg base N qual (defScope st) f cdv A outer s H E p).nox (defBody st) t ∧ t { nx := fun _ H' => Q .non H', rt := Q } (L2.start N vs) H) : FnE P w K mg base CX0 (k + 1) f fd ps sp := by
  obtain ⟨oc, od, kV, doc, pm, an, cdv, ct, osl, rfl, lk, hcd⟩ := F.ex
  refine ⟨many, fun A outer s H args us vs Q E p hr pin e0 hb r q => ?_⟩
  have hl := many _ _ _ _ _ q
  have KX : K.In s.heap := e0.mod.kin.keeps fun b o e => (e0.bs b o e).1
  have lim : s.heap.NoLimit := e0.mod.nolimit.keeps fun b o e => (e0.bs b o e).1
  have kinds : ∀ y ∈ ps.zip us, (defScope st).names.lookup y.1 = some .local ∨ ((defScope st).names.lookup y.1 = some .cell ∧ ((cellsFrom (s.heap.objs.size + 1) (defScope st).names []).lookup y.1).isSome = true) := fun ⟨n, v⟩ hy => by
    rcases S.par n (List.of_mem_zip hy).1 with z | z
    · exact .inl z
    · exact .inr ⟨z, PySem.W.cellsFrom_some _ _ _ (.inl z)⟩
  refine codeAny_call_function hr.depth (KX _ _ lk) rfl S.co S.gen rfl (PySem.W.codeRec_of KX hcd) (hb _ _ _ _ ?_)
  refine wpAny_newFunctionEnv_cells S.kind kinds fun env he s1 x1 => ?_
  subst he
  refine ⟨lim.keeps x1.toInCall.keep, codeAny_func ?_⟩
  obtain ⟨t, ht, hq⟩ := body cdv A outer s H vs Q E p (hr.deeper _) q
  have I : Inv (cxH CX0 P w K mg base N qual (defScope st) f cdv A outer s H E p) [] (L2.start N vs) H s1 := inv_startH S pin e0 hl r x1
  refine wpAny_mono (ht.nox.run [] s1 (L2.start N vs) H _ I hq) (fun fl s' hs => ?_) fun e s' hs => hs
  match fl, hs with
  | .ret u, ⟨v, _, H', J, rv, z⟩ => exact ⟨v, H', J.os, J.bare, J.base, J.hok, rv, z⟩
  | .next, ⟨_, H', J, z⟩ => exact ⟨V.non, H', J.os, J.bare, J.base, J.hok, rfl, z⟩
  | .brk, ⟨_, _, _, z⟩ => exact z.elim
  | .cont, ⟨_, _, _, z⟩ => exact z.elim
end
section
variable {X : Cx} {CX : CXT} {k : Nat} {f : Addr} {fd : FuncData} {ps : List Str} {sp : Addr × Obj → Sp} {E : XK} {x : Str} {q pos : Pos} {e : Expr} {es : List Expr} {t : TA} {p : Addr × Obj}
theorem pe_callE (F : FnE X.prog X.w X.K X.mg X.base CX k f fd ps sp) (hr : RoomH k X.A) (hp : p ∈ X.pn) (hg : Gl X x) (hm : X.mg x = some (.ref f)) (hk : PySem.W.keepIn X.K (.ref f) = true) (hb : Binds X.K fd ps []) (hx : Passes CX X E)
    (ha : PA X (e :: es) t) (n1 : (x == ("__debug__" : Str)) = false := by decide) (n2 : starEach (e :: es) X.env = (false, eval e X.env) :: starEach es X.env := by rfl)
    (n3 : (backTo pos (starEach es X.env)).any (·.1) = false := by rfl) : PE X (.Call (.Name x q) (e :: es) [] pos) (tCall (sp p) [] E t) := by
  refine ⟨fun pins s σ H Q I q0 => wpAny_Call_Name_kw (ld_glob I hg hm (PySem.W.callWith_K (h₀ := X.base) I.ok.mod.kin hk (thn (ha.run pos pins s σ H _ I q0) fun us s1 ⟨vs, H1, I1, r, q⟩ => ⟨I1.kIn, ?_⟩) n2 n3) n1)⟩
  have q : sp p (vs ++ []) H1 Q E := q
  rw [List.append_nil] at q
  have l2 : (us ++ []).length = ps.length := by
    rw [List.append_nil]
    exact r.length.symm.trans (F.many _ _ _ _ _ q)
  have b := hb s1 us I1.kIn l2
  rw [List.append_nil] at b
  have P1 := I1.pin p (List.mem_append_left _ hp)
  have pin : PinOk X.stack H1 s1 p := ⟨P1.1, P1.2.1, fun hm => (List.mem_cons.mp (I1.stkSub p.1 hm)).elim P1.2.2.1 P1.2.2.2.1, P1.2.2.2.2⟩
  refine wpAny_call (codeAny_mono (F.runs X.A X.stack s1 H1 ⟨us, []⟩ us vs Q E p hr pin I1.env0 b r q) fun res s' z => ?_)
  match res, z with
  | .error err, z => exact hx pins σ H1 s1 err s' I1 z
  | .ok (.ret u), z => exact I1.after z
  | .ok .next, z => exact z.elim
  | .ok .brk, z => exact z.elim
  | .ok .cont, z => exact z.elim
end
/-! ### e.f of the exception in hand, whatever its class -/
def exFields : List Str := ["code", "given", "at", "path", "name", "word", "layer", "start", "goal", "limit", "line", "subject", "most"]
/-- a class of errors whose fields are its instances' own -/
structure OwnX (K : PySem.W.Frag) (C : Addr) : Prop where
  xf : XfC K C
  no : ∀ f ∈ exFields, PySem.W.findIn K (.ref C) f = some none
def ownXB (K : PySem.W.Frag) (C : Addr) : Bool := xfB K C && exFields.all fun f => decide (PySem.W.findIn K (.ref C) f = some none)
theorem ownX_of {K : PySem.W.Frag} {C : Addr} (h : ownXB K C = true) : OwnX K C := by
  obtain ⟨h1, h2⟩ := Bool.and_eq_true_iff.mp h
  exact ⟨xfB_ok h1, fun f hf => of_decide_eq_true (List.all_eq_true.mp h2 f hf)⟩
def tXp (K : PySem.W.Frag) (p : Addr × Obj) (f : Str) (te : TE) : TE := fun σ H Q => te σ H fun x H1 => x = .ref p.1 ∧ ∃ (C dd : Addr) (fs : List (Str × V)) (v : V), p.2.cls = .ref C ∧ OwnX K C ∧ p.2.dict = some dd ∧ (∃ vs, p.2.data = .fields vs) ∧
  H1 dd = some (.xd fs) ∧ fs.lookup f = some v ∧ Q v H1
theorem pe_xp {X : Cx} {p : Addr × Obj} {e : Expr} {te : TE} {pos : Pos} {n : Str} (hp : p ∈ X.pn) (hn : n ∈ exFields) (he : PE X e te) (hb : attributeBase e n X.env (eval e X.env) = eval e X.env := by rfl) : PE X (.Attribute e n pos) (tXp X.K p n te) := by
  refine ⟨fun pins s σ H Q I h => attr_of hb (thn (he.run pins s σ H _ I h) fun u s1 hh => ?_)⟩
  obtain ⟨x, H1, I1, rx, ex, C, dd, fs, v, ec, T, ed, ⟨vs, hd⟩, ea, l, q⟩ := hh
  subst ex
  obtain rfl : u = Value.ref p.1 := rx
  obtain ⟨ha, _⟩ := I1.pin p (List.mem_append_left _ hp)
  obtain ⟨mA, hns, hr⟩ := (show ObjOk X.prog X.w H1 s1.heap dd (.xd fs) from I1.hok dd _ ea)
  obtain ⟨od, ho, hl⟩ := lookIn_ns hns
  obtain ⟨u, hu, ru⟩ := RelO.some_of (v := v) (o := mA n) (by rw [← l]; exact hr n)
  have J : PySem.W.InstAt s1.heap p.1 p.2 C (some od) := ⟨ha, ec, by unfold PySem.W.notCls; rw [hd] <;> rfl, by rw [ed]; exact ho⟩
  exact HandSPX.exc_get I1.kIn J T.xf.ga T.xf.gg T.xf.exC (PySem.W.findObj_own T.xf.hdC (T.no n hn) rfl (by rw [hl, hu])) (handed_of ru) ⟨v, H1, I1.tok _, ru, q⟩
end VG

set_option maxRecDepth 100000
/-! The fields of the exception in hand, by its code. -/
namespace VG
open PySem PySem.Spec PyProof.Rows L2
theorem same_upd {H : Hp} {a : Addr} {o : HO} (h : H a = none) : Same H (upd H a o) := fun b u e => by rw [upd_ne (ne_of_none e h)]; exact e
/-- nm stands in l, as `in` tells it -/
def eqIn (l : List Str) (nm : Str) : Bool := (l.map PyData.str).any fun z => PyData.eqv z (.str nm)
/-- p is an own error with the code nm and the fields fs -/
structure Caught (K : PySem.W.Frag) (H : Hp) (p : Addr × Obj) (nm : Str) (fs : List (Str × V)) : Prop where
  ex : ∃ (C dd : Addr), p.2.cls = .ref C ∧ OwnX K C ∧ p.2.dict = some dd ∧ (∃ vs, p.2.data = .fields vs) ∧ H dd = some (.xd fs)
  code : fs.lookup ("code" : Str) = some (V.str nm)
  sh : SeqAt.shaped (.str nm) = true
theorem Caught.same {K : PySem.W.Frag} {H H' : Hp} {p : Addr × Obj} {nm : Str} {fs : List (Str × V)} (e : Same H H') (c : Caught K H p nm fs) : Caught K H' p nm fs := by
  obtain ⟨⟨C, dd, h1, h2, h3, h4, h5⟩, h6, h7⟩ := c
  exact ⟨⟨C, dd, h1, h2, h3, h4, e _ _ h5⟩, h6, h7⟩
theorem Caught.get {K : PySem.W.Frag} {H : Hp} {p : Addr × Obj} {nm f : Str} {fs : List (Str × V)} {v : V} {Q : VK} (c : Caught K H p nm fs) (l : fs.lookup f = some v) (q : Q v H) :
    ∃ (C dd : Addr) (fs : List (Str × V)) (v : V), p.2.cls = .ref C ∧ OwnX K C ∧ p.2.dict = some dd ∧ (∃ vs, p.2.data = .fields vs) ∧ H dd = some (.xd fs) ∧ fs.lookup f = some v ∧ Q v H := by
  obtain ⟨⟨C, dd, h1, h2, h3, h4, h5⟩, _, _⟩ := c
  exact ⟨C, dd, fs, v, h1, h2, h3, h4, h5, l, q⟩
theorem strs_all {K : PySem.W.Frag} {H : Hp} : ∀ l : List Str, DpAll K H (l.map V.str) (l.map PyData.str)
  | [] => .nil
  | x :: l => .cons (.str x) (strs_all l)
section
variable {X : Cx} {p : Addr × Obj} {x f : Str} {i j1 j2 j3 : Nat} {l : List Str} {es fes : List Expr} {p1 p2 p3 p4 p5 p6 p7 p8 p9 : Pos}
/-- the fields ns of the exception in hand, in slot i -/
def tFlds (K : PySem.W.Frag) (p : Addr × Obj) (i : Nat) (ns : List Str) : TA := fun σ H Q => σ[i]? = some (some (.ref p.1)) ∧ ∃ (nm : Str) (fs : List (Str × V)) (ys : List V), Caught K H p nm fs ∧ ns.map (fun f => fs.lookup f) = ys.map some ∧ Q ys H
theorem pa_flds0 : PA X [] (tFlds X.K p i []) := by
  refine ⟨fun pos pins s σ H Q I h => ?_⟩
  obtain ⟨_, nm, fs, ys, _, e, q⟩ := h
  have e2 : ys = [] := by
    cases ys with
    | nil => rfl
    | cons y ys => cases e
  subst e2
  exact pa_nil.run pos pins s σ H Q I q
theorem pa_flds {ns : List Str} (hp : p ∈ X.pn) (hv : PE X (.Name x p1) (tVar i)) (hf : f ∈ exFields) (ha : PA X es (tFlds X.K p i ns)) : PA X (.Attribute (.Name x p1) f p2 :: es) (tFlds X.K p i (f :: ns)) := by
  refine ⟨fun pos pins s σ H Q I h => ?_⟩
  obtain ⟨hs, nm, fs, ys, c, e, q⟩ := h
  match ys, e with
  | y :: ys, e =>
    have e1 := List.cons.inj e
    obtain ⟨C, dd, h1, h2, h3, h4, h5⟩ := c.ex
    refine (pa_cons (pe_xp hp hf hv) ha).run pos pins s σ H Q I ?_
    refine ⟨_, hs, rfl, C, dd, fs, _, h1, h2, h3, h4, h5, e1.1, ?_⟩
    exact ⟨hs, nm, fs, ys, c, e1.2, q⟩
theorem small_line {n : Nat} (h : n ≤ 1000) : n ≤ sizeLine := Nat.le_trans h (by decide)
/-- if a test of the code: return the fields ns -/
def tIfRet (K : PySem.W.Frag) (p : Addr × Obj) (i : Nat) (c : Str → Bool) (ns : List Str) : TS := fun D σ H => σ[i]? = some (some (.ref p.1)) ∧ ∃ (nm : Str) (fs : List (Str × V)), Caught K H p nm fs ∧
  (c nm = true → ∃ ys, ns.map (fun f => fs.lookup f) = ys.map some ∧ ∀ T H', Same H H' → SqT K H' T ys → D.rt (.ref T) H') ∧ (c nm = false → ∀ H', Same H H' → D.nx σ H')
theorem flds_end {K : PySem.W.Frag} {σ : L2.St} {H H1 : Hp} {ns : List Str} {nm : Str} {fs : List (Str × V)} {R : VK} (hl : ns.length ≤ 1000) (hs : σ[i]? = some (some (.ref p.1))) (sm : Same H H1) (c : Caught K H p nm fs)
    (h : ∃ ys, ns.map (fun f => fs.lookup f) = ys.map some ∧ ∀ T H', Same H H' → SqT K H' T ys → R (.ref T) H') : tTup (tFlds K p i ns) σ H1 R := by
  obtain ⟨ys, e, k⟩ := h
  have hz : ys.length = ns.length := by
    have z := congrArg List.length e
    rw [List.length_map, List.length_map] at z
    exact z.symm
  exact ⟨hs, nm, fs, ys, c.same sm, e, small_line (by omega), fun T hT => k T _ (sm.trans (same_upd hT)) (SqT.of upd_same)⟩
theorem ps_inRet {ns : List Str} (hp : p ∈ X.pn) (hu : X.A.units + 65 < cLine) (hl : l.length ≤ 1000) (hn : ns.length ≤ 1000) (sh : SeqAt.shaped (.tuple (l.map PyData.str)) = true) (hv : PE X (.Name x p1) (tVar i))
    (ha : PA X es (fun _ H Q => Q (l.map V.str) H)) (he : PA X fes (tFlds X.K p i ns)) :
    PS X (.If (.Compare (.Attribute (.Name x p1) "code" p3) [.In] [.Tuple es j1 p4] p5) [.Return (some (.Tuple fes j2 p7)) p8] [] p9) (tIfRet X.K p i (eqIn l) ns) := by
  refine ⟨fun pins s σ H D I h => (ps_if (pt_cmpR (op_inT hu) (pe_xp hp (by decide) hv) (pe_tup ha) rfl) (pss_one (ps_ret (pe_tup he))) pss_nil).run pins s σ H D I ?_⟩
  obtain ⟨hs, nm, fs, c, hy, hn⟩ := h
  have hz : (l.map V.str).length ≤ sizeLine := by rw [List.length_map]; exact small_line hl
  refine ⟨_, hs, rfl, c.get c.code ⟨hz, fun T hT => ?_⟩⟩
  have sm := same_upd (o := .tup (l.map V.str)) hT
  refine ⟨.str nm, l.map PyData.str, .str nm, .tup (SqT.of upd_same) (strs_all l), c.sh, sh, eqIn l nm, rfl, ?_⟩
  cases e : eqIn l nm with
  | true => exact iteT (flds_end (by assumption) hs sm c (hy e))
  | false => exact iteF (hn e _ sm)
theorem ps_eqRet {ns : List Str} {z : Str} (hp : p ∈ X.pn) (hn : ns.length ≤ 1000) (hv : PE X (.Name x p1) (tVar i)) (he : PA X fes (tFlds X.K p i ns)) :
    PS X (.If (.Compare (.Attribute (.Name x p1) "code" p3) [.Eq] [.Constant (.str z) j1 p4] p5) [.Return (some (.Tuple fes j2 p7)) p8] [] p9) (tIfRet X.K p i (fun nm => decide (nm = z)) ns) := by
  refine ⟨fun pins s σ H D I h => (ps_if (pt_cmpR op_eq (pe_xp hp (by decide) hv) pe_str rfl) (pss_one (ps_ret (pe_tup he))) pss_nil).run pins s σ H D I ?_⟩
  obtain ⟨hs, nm, fs, c, hy, hn⟩ := h
  obtain ⟨C, dd, h1, h2, h3, h4, h5⟩ := c.ex
  refine ⟨_, hs, rfl, C, dd, fs, _, h1, h2, h3, h4, h5, c.code, ?_⟩
  refine ⟨rfl, decide (nm = z), congrArg V.bl ?_, ?_⟩
  · by_cases y : nm = z
    · subst y
      rw [decide_eq_true rfl, decide_eq_true rfl]
    · rw [decide_eq_false y, decide_eq_false fun q => y (V.str.inj q)]
  cases e : decide (nm = z) with
  | true => exact iteT (flds_end (by assumption) hs (Same.refl H) c (hy e))
  | false => exact iteF (hn e _ (Same.refl H))
/-- return the fields ns if the code is z else () -/
def tEndRet (K : PySem.W.Frag) (p : Addr × Obj) (i : Nat) (z : Str) (ns : List Str) : TS := fun D σ H => σ[i]? = some (some (.ref p.1)) ∧ ∃ (nm : Str) (fs : List (Str × V)), Caught K H p nm fs ∧
  ∃ ys, (if decide (nm = z) = true then ns else []).map (fun f => fs.lookup f) = ys.map some ∧ ∀ T H', Same H H' → SqT K H' T ys → D.rt (.ref T) H'
theorem ps_endRet {ns : List Str} {z : Str} (hp : p ∈ X.pn) (hn : ns.length ≤ 1000) (hv : PE X (.Name x p1) (tVar i)) (he : PA X fes (tFlds X.K p i ns)) :
    PS X (.Return (some (.IfExp (.Compare (.Attribute (.Name x p1) "code" p3) [.Eq] [.Constant (.str z) j1 p4] p5) (.Tuple fes j2 p7) (.Tuple [] j3 p2) p6)) p8) (tEndRet X.K p i z ns) := by
  refine ⟨fun pins s σ H D I h => (ps_ret (pe_ifExp (pt_cmpR op_eq (pe_xp hp (by decide) hv) pe_str rfl) (pe_tup he) (pe_tup (pa_flds0 (p := p) (i := i))))).run pins s σ H D I ?_⟩
  obtain ⟨hs, nm, fs, c, h⟩ := h
  obtain ⟨C, dd, h1, h2, h3, h4, h5⟩ := c.ex
  refine ⟨_, hs, rfl, C, dd, fs, _, h1, h2, h3, h4, h5, c.code, ?_⟩
  refine ⟨rfl, decide (nm = z), congrArg V.bl ?_, ?_⟩
  · by_cases y : nm = z
    · subst y
      rw [decide_eq_true rfl, decide_eq_true rfl]
    · rw [decide_eq_false y, decide_eq_false fun q => y (V.str.inj q)]
  cases e : decide (nm = z) with
  | true =>
    rw [e, if_pos rfl] at h
    exact iteT (flds_end (by assumption) hs (Same.refl H) c h)
  | false =>
    rw [e, if_neg Bool.false_ne_true] at h
    exact iteF (flds_end (by decide) hs (Same.refl H) c h)
end
end VG

set_option maxRecDepth 100000
/-! ask(lambda: ..): ('', what it gives), or (code,) + the fields of the error that it raises. -/
namespace VG
open PySem PySem.Spec PyProof.Rows L2 LamX
open L2H (RoomH roomH_of)
/-- the fields of an error with the code nm, as the law tells them -/
def fieldsOf (nm : Str) : List Str :=
  if eqIn ["InvalidRatio", "InvalidNumber", "InvalidName", "InvalidLayer", "InvalidPlace", "InvalidPoint", "InvalidForm", "InvalidLimit"] nm = true then ["given"]
  else if eqIn ["InvalidRow", "InvalidFact", "InvalidCommand"] nm = true then ["at"]
  else if eqIn ["InvalidStep", "UnlikeEnds"] nm = true then ["path"]
  else if eqIn ["DuplicateName", "UnknownName"] nm = true then ["name"]
  else if eqIn ["InvalidText", "UnknownScript"] nm = true then ["word"]
  else if decide (nm = "InvalidTable") = true then ["layer"]
  else if decide (nm = "InvalidWay") = true then ["layer", "start", "goal"]
  else if decide (nm = "Full") = true then ["limit"]
  else if decide (nm = "InvalidPage") = true then ["line"]
  else if decide (nm = "TooMany") = true then ["subject", "most"] else []
/-- the fields of the error p: of its code's names, in a tuple -/
def spFields (K : PySem.W.Frag) : Addr × Obj → Sp := fun p vs H Q _ => vs = [.ref p.1] ∧ ∃ (nm : Str) (fs : List (Str × V)) (ys : List V), Caught K H p nm fs ∧ (fieldsOf nm).map (fun f => fs.lookup f) = ys.map some ∧ ∀ T H', Same H H' → SqT K H' T ys → Q (.ref T) H'
/-- an own error of class cls, its dict d -/
structure Err (K : PySem.W.Frag) (H : Hp) (cls : Value) (d : Option Addr) (nm : Str) (fs : List (Str × V)) : Prop where
  ex : ∃ (C dd : Addr), cls = .ref C ∧ OwnX K C ∧ d = some dd ∧ H dd = some (.xd fs)
  code : fs.lookup ("code" : Str) = some (V.str nm)
  sh : SeqAt.shaped (.str nm) = true
theorem Err.caught {K : PySem.W.Frag} {H : Hp} {cls : Value} {d : Option Addr} {nm : Str} {fs : List (Str × V)} {a : Addr} {oe : Obj} (e : Err K H cls d nm fs) (hz : Zc cls d oe) (hf : ∃ vs, oe.data = .fields vs) : Caught K H (a, oe) nm fs := by
  obtain ⟨⟨C, dd, h1, h2, h3, h4⟩, h5, h6⟩ := e
  exact ⟨⟨C, dd, hz.1.trans h1, h2, hz.2.trans h3, hf, h4⟩, h5, h6⟩
/-- what ask wishes of an error of the body, cs the classes that it catches -/
def askX (K : PySem.W.Frag) (cs : List Value) (Q : VK) : XK := fun cls d H => PySem.W.exmAny K cls cs = some true ∧ ∃ (nm : Str) (fs : List (Str × V)) (ys : List V), Err K H cls d nm fs ∧ (fieldsOf nm).map (fun f => fs.lookup f) = ys.map some ∧ ys.length ≤ 1000 ∧
  ∀ T H', Same H H' → SqT K H' T (.str nm :: ys) → Q (.ref T) H'
def askQ (Q : VK) : VK := fun x H1 => [V.str "", x].length ≤ sizeLine ∧ ∀ T, H1 T = none → Q (.ref T) (upd H1 T (.tup [.str "", x]))
def TAsk (K : PySem.W.Frag) (cs : List Value) : (XK → Hp → VK → Prop) → Hp → VK → Prop := fun tl H Q => tl (askX K cs Q) H (askQ Q)
section
variable {X : Cx}
/-- the suite: return (e.code,) + fields(e) -/
def tSuite (K : PySem.W.Frag) (i : Nat) : Addr → Value → Option Addr → TS := fun a cls d D σ H => σ[i]? = some (some (.ref a)) ∧ ∃ (nm : Str) (fs : List (Str × V)) (ys : List V), Err K H cls d nm fs ∧ (fieldsOf nm).map (fun f => fs.lookup f) = ys.map some ∧ ys.length ≤ 1000 ∧
  ∀ T H', Same H H' → SqT K H' T (.str nm :: ys) → D.rt (.ref T) H'
theorem ps_suite {a : Addr} {oe : Obj} {cls : Value} {d : Option Addr} {pn : List (Addr × Obj)} {i k : Nat} {e x : Str} {f : Addr} {fd : FuncData} {ps : List Str} {p1 p2 p3 p4 p5 p6 p7 p8 : Pos} {j : Nat}
    (F : FnE X.prog X.w X.K X.mg X.base CX0 k f fd ps (spFields X.K)) (hr : RoomH k X.A) (hg : (X.suite a ((a, oe) :: pn)).env.scope.names.lookup x = some .globalImplicit) (hm : X.mg x = some (.ref f)) (hk : PySem.W.keepIn X.K (.ref f) = true) (hb : L2.Binds X.K fd ps [])
    (hz : Zc cls d oe) (hf : ∃ vs, oe.data = .fields vs) (hv : ∀ p, PE (X.suite a ((a, oe) :: pn)) (.Name e p) (tVar i)) (n1 : (x == ("__debug__" : Str)) = false) :
    PS (X.suite a ((a, oe) :: pn)) (.Return (some (.BinOp (.Tuple [.Attribute (.Name e p1) "code" p2] j p3) .Add (.Call (.Name x p4) [.Name e p5] [] p6) p7)) p8) (tSuite X.K i a cls d) := by
  have hp : (a, oe) ∈ (X.suite a ((a, oe) :: pn)).pn := List.mem_cons_self
  refine ⟨fun pins s σ H D I h => (ps_ret (pe_op op_catT (pe_tup (pa_cons (pe_xp hp (by decide) (hv p1)) pa_nil)) (pe_callE (E := fun _ _ _ => False) (X := X.suite a ((a, oe) :: pn)) F ⟨hr.dp, hr.un⟩ hp hg hm hk hb (fun _ _ _ _ _ _ _ h => h.elim) (pa_cons (hv p5) pa_nil) n1))).run pins s σ H D I ?_⟩
  obtain ⟨hs, nm, fs, ys, er, el, hy, q⟩ := h
  have c := er.caught (a := a) hz hf
  obtain ⟨C, dd, h1, h2, h3, h4, h5⟩ := c.ex
  refine ⟨_, hs, rfl, C, dd, fs, _, h1, h2, h3, h4, h5, c.code, small_line (by show 1 ≤ 1000; decide), fun T hT => ?_⟩
  have sm := same_upd (o := .tup [.str nm]) hT
  refine ⟨_, hs, rfl, nm, fs, ys, c.same sm, el, fun T2 H2 sm2 ht => ?_⟩
  have st : SqT X.K H2 T [.str nm] := Same.tup sm2 (SqT.of upd_same)
  refine ⟨T, T2, [.str nm], ys, rfl, rfl, st, ht, List.cons_ne_nil _ _, Nat.le_trans (Nat.add_le_add_left hy 1) (by decide), fun e => ?_, fun _ T3 hT3 => ?_⟩
  · subst e
    exact q T H2 (sm.trans sm2) st
  · exact q T3 _ ((sm.trans sm2).trans (same_upd hT3)) (SqT.of upd_same)
theorem exm_imp {K : PySem.W.Frag} {cls : Value} {cs : List Value} {Q : VK} {d : Option Addr} {H : Hp} (h : askX K cs Q cls d H) : PySem.W.exmAny K cls cs = some true := h.1
theorem ask_gives {Ng : List Str} {x a e y q xA xB xC : Str} {sg : Scope} {g f : Addr} {fd : FuncData} {ps : List Str} {cA cB cC cdg : Value} {j1 j2 j3 j4 k : Nat} {p1 p2 p3 p4 p5 p6 p7 p8 p9 p10 p11 p12 p13 p14 p15 p16 p17 p18 p19 : Pos}
    (F : FnE X.prog X.w X.K X.mg X.base CX0 k f fd ps (spFields X.K)) (hr : Room (k + 1) X.A) (nd : Ng.Nodup) (h1 : Ng[1]? = some e) (hl : sg.names.lookup e = some .local)
    (gA : sg.names.lookup xA = some .globalImplicit) (gB : sg.names.lookup xB = some .globalImplicit) (gC : sg.names.lookup xC = some .globalImplicit) (gy : sg.names.lookup y = some .globalImplicit)
    (mA : X.mg xA = some cA) (mB : X.mg xB = some cB) (mC : X.mg xC = some cC) (my : X.mg y = some (.ref f)) (hk : PySem.W.keepIn X.K (.ref f) = true) (hb : L2.Binds X.K fd ps [])
    (dA : (xA == ("__debug__" : Str)) = false) (dB : (xB == ("__debug__" : Str)) = false) (dC : (xC == ("__debug__" : Str)) = false) (dy : (y == ("__debug__" : Str)) = false) (de : (e == ("__debug__" : Str)) = false) (dc : (e == ("__classdict__" : Str)) = false)
    (h0 : ∀ f : Addr, (L2.start Ng [V.ref f])[0]? = some (some (V.ref f))) (h2 : 1 < Ng.length) :
    GivesTo X Ng x sg g cdg [.Try [.Return (some (.Tuple [.Constant (.str "") j1 p1, .Call (.Name a p2) [] [] p3] j2 p4)) p5]
      [.ExceptHandler (some (.Tuple [.Name xA p6, .Name xB p7, .Name xC p8] j3 p9)) (some e) [.Return (some (.BinOp (.Tuple [.Attribute (.Name e p10) "code" p11] j4 p12) .Add (.Call (.Name y p13) [.Name e p14] [] p15) p16)) p17] p18] [] [] p19] a q (TAsk X.K [cA, cB, cC]) := by
  intro f' c' s H Q tl act hc h
  have room : RoomH k (cxOf C8.CX0 X.prog X.w X.K X.mg X.base Ng x sg g cdg X.A X.stack s H C8.E0).nox.A := roomH_of (hr.deeper _)
  refine ⟨_, pss_one (ps_try_as3 (X := (cxOf C8.CX0 X.prog X.w X.K X.mg X.base Ng x sg g cdg X.A X.stack s H C8.E0).nox) (c1 := cA) (c2 := cB) (c3 := cC) (i := 1)
      (tb := fun W D σ H => ∃ Ech : XK, (∀ cls d σ' H', Ech cls d H' → W cls d σ' H') ∧ σ[0]? = some (some (.ref f')) ∧ H c' = some (CodeO c' q) ∧ tl Ech H (askQ D.rt))
      (ts := tSuite X.K 1) rfl rfl nd h1 hl ⟨gA, dA, .inl mA⟩ ⟨gB, dB, .inl mB⟩ ⟨gC, dC, .inl mC⟩ (fun W pn xe tk _ => ?_) (fun b oe cls d pn hz hf => ?_)), ?_⟩
  · refine ⟨fun pins s' σ H' D I h' => ?_⟩
    obtain ⟨Ech, hW, e1, e2, e3⟩ := h'
    have hp := act W pn xe Ech p2 p3 tk hW
    have hq := pss_one (st := .Return (some (.Tuple [.Constant (.str "") j1 p1, .Call (.Name a p2) [] [] p3] j2 p4)) p5) (ps_ret (pe_tup (pa_cons pe_str (pa_cons hp pa_nil))))
    exact hq.run pins s' σ H' D I ⟨e1, e2, e3⟩
  · refine pss_one (ps_suite F room ?_ my hk hb hz hf (fun p => pe_var h1 (.inl hl) de dc) dy)
    exact gy
  · refine ⟨askX X.K [cA, cB, cC] Q, fun cls d σ' H' z => ?_, h0 f', hc, h⟩
    obtain ⟨z1, nm, fs, ys, z2, z3, z4, z5⟩ := z
    refine ⟨z1, fun b hb hn => ⟨?_, nm, fs, ys, z2, z3, z4, z5⟩⟩
    have hn : σ'.length = Ng.length := hn
    rw [List.getElem?_set_self (by omega)]
end
end VG

set_option maxRecDepth 100000
/-! A lambda with one parameter that bears a default, handed to a def that calls it without arguments. -/
namespace VG
open PySem PySem.Spec PyProof.Rows L2 LamX
/-! ### its function object -/
abbrev dlFn (qual : Str) (params : Arguments) (body : Expr) (scope : Scope) (cl : List (Str × Addr)) (pm cdv ctv dv : Value) : FuncData := { PySem.W.kla_fn "<lambda>" qual params body scope cl pm cdv ctv with defaults := dv }
abbrev dlObj (qual : Str) (params : Arguments) (body : Expr) (scope : Scope) (cl : List (Str × Addr)) (pm cdv ctv dv : Value) : Obj := { cls := .type "function", data := .func (dlFn qual params body scope cl pm cdv ctv dv) }
abbrev oneTup (u : Value) : Obj := { cls := .type "tuple", data := .seq [u].toArray }
section
variable {M : Model} {A : Around} {E : Value → Shared → Prop} {s : Shared} {Q : Value → Shared → Prop}
/-- the closure's tuple, if there is one -/
theorem clo_tup {clos : List (Str × Addr)} {k : Value → Sem Value} (h : ∀ (ctv : Value) (h1 : Heap), (∀ b o, s.heap.get? b = some o → h1.get? b = some o) → s.heap.objs.size ≤ h1.objs.size → wpAny M A (k ctv) Q E { s with heap := h1 }) :
    wpAny M A (do
      let t ← if clos.isEmpty then pure .none else newTextTuple ((clos.mergeSort fun a b => a.1.cps.toList ≤ b.1.cps.toList).map (.ref ·.2))
      k t) Q E s := by
  match clos with
  | [] => exact wpAny_bind (wpAny_pure (h .none s.heap (fun _ _ e => e) (Nat.le_refl _)))
  | q :: r =>
    refine wpAny_bind (wpAny_newTextTuple (h _ _ (fun b o e => Heap.get?_push_of_some _ e) ?_))
    rw [Heap.size_push]
    omega
variable {qual : Str} {params : Arguments} {body : Expr} {scope : Scope} {env : Env} {c P : Addr} {ps : Array Value} {pos : Pos} {line : Nat} {mg : Str → Option Value} {clos : List (Str × Addr)} {dv : Value}
/-- it is made: its code object stands in the table -/
theorem dl_hit {cv : Value} (hcl : closureFor scope env = pure clos) (eg : env.globals = mainGlobals) (gm : s.heap.Ns mainGlobals mg) (ec : env.code = .ref c) (C : PySem.W.CodeHd s.heap c P) (tab : s.heap.get? P = some { cls := .none, data := .fields ps }) (ok : TriplesOk ps.toList)
    (hit : codeAmong pos ps.toList = some cv) (bl : s.heap.BuiltinsAt mg P)
    (h : ∀ (ctv : Value) (h1 : Heap) (tk : Tok), (∀ b o, s.heap.get? b = some o → h1.get? b = some o) → s.heap.objs.size ≤ h1.objs.size →
      Q (.ref h1.objs.size) { s with heap := h1.push (dlObj qual params body scope clos ((mg "__name__").getD .none) cv ctv dv), toks := tk }) :
    wpAny M A (makeTail "<lambda>" qual params (.expr body) scope env dv .none none pos line) Q E s := by
  obtain ⟨bm, ob, y1, y2, _, _, y5, y6, y7, y8⟩ := bl
  unfold makeTail
  rw [hcl, eg]
  refine wpAny_bind (wpAny_pure (clo_tup fun ctv h1 kp sz => ?_))
  refine wpAny_bind (wpAny_functionCode_hit ec ((C.keeps kp).code (kp _ _ tab) ok) hit ?_)
  refine wpAny_bind (wpAny_builtinsFor (gm.keeps kp) y1 y2 (kp _ _ y5) y6 y7 y8 ?_)
  exact wpAny_bind (wpAny_nsGet (gm.keeps kp) (wpAny_bind (wpAny_pure (wpAny_newObj_type (h ctv h1 s.toks kp sz) (by size_fits)))))
/-- it is made: its code object is new -/
theorem dl_new (hcl : closureFor scope env = pure clos) (eg : env.globals = mainGlobals) (gm : s.heap.Ns mainGlobals mg) (ec : env.code = .ref c) (C : PySem.W.CodeHd s.heap c P) (tab : s.heap.get? P = some { cls := .none, data := .fields ps }) (ok : TriplesOk ps.toList)
    (miss : codeAmong pos ps.toList = none) (gP : mainGlobals ≠ P) (bl : s.heap.BuiltinsAt mg P)
    (h : ∀ (c' : Addr) (ctv : Value) (h1 : Heap) (tk : Tok), Heap.ExtBut P s.heap h1 → s.heap.objs.size ≤ c' → c' < h1.objs.size → h1.CodeRec (.ref c') qual → h1.get? P = some { cls := .none, data := .fields (ps ++ #[rawInt pos.line, rawInt pos.col, .ref c']) } →
      Q (.ref h1.objs.size) { s with heap := h1.push (dlObj qual params body scope clos ((mg "__name__").getD .none) (.ref c') ctv dv), toks := tk }) :
    wpAny M A (makeTail "<lambda>" qual params (.expr body) scope env dv .none none pos line) Q E s := by
  obtain ⟨bm, ob, y1, y2, _, y4, y5, y6, y7, y8⟩ := bl
  unfold makeTail
  rw [hcl, eg]
  refine wpAny_bind (wpAny_pure (clo_tup fun ctv h1 kp sz => ?_))
  refine wpAny_bind (wpAny_functionCodeX ec ((C.keeps kp).code (kp _ _ tab) ok) ((C.keeps kp).tab (kp _ _ tab)) miss fun c' h2 tk ext ge lt _ rec there _ => ?_)
  have gm2 := (gm.keeps kp).extBut ext gP
  refine wpAny_bind (wpAny_builtinsFor gm2 y1 y2 (ext _ _ y4 (kp _ _ y5)) y6 y7 y8 ?_)
  refine wpAny_bind (wpAny_nsGet gm2 (wpAny_bind (wpAny_pure (wpAny_newObj_type (h c' ctv h2 tk (fun b o n e => ext b o n (kp b o e)) (Nat.le_trans sz ge) lt rec there.2) (by size_fits)))))
end
/-! ### made, in the layer -/
section
variable {X : Cx} {pins : List (Addr × Obj)} {σ : L2.St} {H : Hp} {s : Shared}
/-- an object that nothing tracks and no frame is -/
structure Loose (X : Cx) (H : Hp) (s : Shared) (a : Addr) (o : Obj) : Prop where
  get : s.heap.get? a = some o
  free : H a = none
  nofr : a ∉ frs X.stack
theorem new_nofr (I : Inv X pins σ H s) {a : Addr} (h : s.heap.objs.size ≤ a) : a ∉ frs X.stack := fun z => by
  rcases List.mem_cons.mp (I.stkSub _ z) with e | e
  · have h1 := I.lt
    rw [← e] at h1
    exact Nat.lt_irrefl _ (Nat.lt_of_lt_of_le h1 h)
  · exact I.nofs h e
/-- ps's tables and all else, a new code object in one of them -/
theorem tabs_new {T : List (Addr × Str)} {P c' : Addr} {q : Str} {ps : Array Value} {p0 : Pos} (hT : Tabs T H) (hP : H P = some (.tbl ps)) (ok : TriplesOk ps.toList) (at' : ∀ (pos : Pos) (cv : Value), codeAmong pos ps.toList = some cv → ∃ c, cv = .ref c ∧ H c = some (CodeO c q))
    (nC : H c' = none) (hu : ∀ p ∈ T, p.1 = P → p.2 = q) :
    ExtN H (upd (upd H P (.tbl (ps ++ #[rawInt p0.line, rawInt p0.col, .ref c']))) c' (CodeO c' q)) ∧ Tabs T (upd (upd H P (.tbl (ps ++ #[rawInt p0.line, rawInt p0.col, .ref c']))) c' (CodeO c' q)) := by
  have e1 : ExtN H (upd (upd H P (.tbl (ps ++ #[rawInt p0.line, rawInt p0.col, .ref c']))) c' (CodeO c' q)) := fun b o e n => by
    have nP : b ≠ P := fun z => by
      rw [z, hP] at e
      exact n ps (Option.some.inj e).symm
    rw [upd_ne (ne_of_none e nC), upd_ne nP]
    exact e
  have el : (ps ++ #[rawInt p0.line, rawInt p0.col, .ref c']).toList = ps.toList ++ [rawInt p0.line, rawInt p0.col, .ref c'] := by simp
  refine ⟨e1, fun p hp => ?_⟩
  by_cases hb : p.1 = P
  · rw [hu p hp hb, hb]
    refine ⟨_, by rw [upd_ne (ne_of_none hP nC), upd_same], by rw [el]; exact PySem.TriplesOk_snoc _ _ _ _ ok, fun p' cv hcv => ?_⟩
    rw [el] at hcv
    rcases among_app _ ok hcv with z | z
    · obtain ⟨c0, z1, z2⟩ := at' p' cv z
      exact ⟨c0, z1, e1 _ _ z2 codeO_ne⟩
    · exact ⟨c', z, upd_same⟩
  · obtain ⟨qs, a1, a2, a3⟩ := hT p hp
    refine ⟨qs, by rw [upd_ne (ne_of_none a1 nC), upd_ne hb]; exact a1, a2, fun p' cv hcv => ?_⟩
    obtain ⟨c0, z1, z2⟩ := a3 p' cv hcv
    exact ⟨c0, z1, e1 _ _ z2 codeO_ne⟩
/-- lambda a=z: body, evaluated -/
theorem dl_make {T : List (Addr × Str)} {c P : Addr} {params : Arguments} {body : Expr} {scope : Scope} {pos p0 : Pos} {z : Int} {j : Nat} {E : Value → Shared → Prop} {Q : Value → Shared → Prop} (I : Inv X pins σ H s) (TB : TabB X.base X.mg c P) (hcode : X.env.code = .ref c)
    (hm : (P, X.env.qual ++ "<lambda>") ∈ T) (hu : ∀ p ∈ T, p.1 = P → p.2 = X.env.qual ++ "<lambda>") (hT : Tabs T H) (hdef : defaultsOf params X.env = ([eval (.Constant (.int z) j p0) X.env], [])) (hkw : params.kwonlyargs = [])
    (hfree : ∀ y ∈ scope.names, y.2 = .free → ∃ c, X.env.cells.lookup y.1 = some c) (hE : ∀ e s', X.xe e s' → E e s')
    (h : ∀ (f D c' : Addr) (pm ctv u : Value) (H1 : Hp) (s' : Shared), Inv X pins σ H1 s' → ExtN H H1 → Tabs T H1 → RelV (.int z) u → Loose X H1 s' D (oneTup u) →
      Loose X H1 s' f (dlObj (X.env.qual ++ "<lambda>") params body scope (cloFrom X.env.cells scope.names []) pm (.ref c') ctv (.ref D)) → H1 c' = some (CodeO c' (X.env.qual ++ "<lambda>")) → Q (.ref f) s') :
    wpAny (model X.prog X.w) X.A (eval (.Lambda params body scope pos) X.env) Q E s := by
  rw [arm_eval_Lambda, hdef]
  show wpAny (model X.prog X.w) X.A (do let dv ← evalAll [eval (.Constant (.int z) j p0) X.env]; let kdv ← holding dv (evalAllOpt []); makeFunction "<lambda>" (X.env.qual ++ "<lambda>") params (.expr body) scope X.env dv kdv [] pos pos.line) Q E s
  refine wpAny_bind ?_
  show wpAny (model X.prog X.w) X.A (do let v ← eval (.Constant (.int z) j p0) X.env; return v :: (← holding [v] (evalAll []))) _ E s
  refine wpAny_bind (wpAny_mono ((pe_int (X := X)).run pins s σ H (fun v H1 => v = .int z ∧ H1 = H) I ⟨rfl, rfl⟩) (fun u s1 hh => ?_) hE)
  obtain ⟨v, H1, I1, rv, ev, eH⟩ := hh
  subst ev
  rw [eH] at I1
  refine wpAny_bind (wpAny_holding (wpAny_pure (wpAny_pure ?_)))
  refine wpAny_bind (wpAny_holding (wpAny_pure ?_))
  rw [makeFunction_eq, hkw]
  simp only [List.zip_nil_left, List.filterMap_nil, List.isEmpty_nil, List.isEmpty_cons, if_true, Bool.false_eq_true, if_false, pure_bind]
  refine wpAny_bind (wpAny_newTextTuple ?_)
  have D0 : s1.heap.objs.size ≤ s1.heap.objs.size := Nat.le_refl _
  have I2 : Inv X pins σ H { s1 with heap := s1.heap.push (oneTup u), toks := s1.toks } := I1.kept fun b o e => Heap.get?_push_of_some _ e
  obtain ⟨ps, hP, ok, at'⟩ := hT _ hm
  have gP : (s1.heap.push (oneTup u)).get? P = some { cls := .none, data := .fields ps } := I2.hok P _ hP
  have bl : (s1.heap.push (oneTup u)).BuiltinsAt X.mg P := TB.bm.keeps I2.bk
  have dGet : (s1.heap.push (oneTup u)).get? s1.heap.objs.size = some (oneTup u) := Heap.get?_push_size _ rfl
  have dFree : H s1.heap.objs.size = none := I1.hok.fresh (Nat.le_refl _)
  have dNofr : s1.heap.objs.size ∉ frs X.stack := new_nofr I1 (Nat.le_refl _)
  have nDP : s1.heap.objs.size ≠ P := fun z => by
    rw [z, hP] at dFree
    cases dFree
  have sz1 : (s1.heap.push (oneTup u)).objs.size = s1.heap.objs.size + 1 := Heap.size_push _ _
  cases e : codeAmong pos ps.toList with
  | some cv =>
    obtain ⟨c', rfl, hco⟩ := at' pos cv e
    refine dl_hit (mg := X.mg) (c := c) (P := P) (ps := ps) (closure_ok hfree) I2.ok.glob (I2.mod.glob.keeps I2.bk) hcode (TB.code.keeps I2.bk) gP ok e bl fun ctv h1 tk kp sz => ?_
    have sz : (s1.heap.push (oneTup u)).objs.size ≤ h1.objs.size := sz
    have kp : ∀ b o, (s1.heap.push (oneTup u)).get? b = some o → h1.get? b = some o := kp
    have I3 : Inv X pins σ H { s1 with heap := h1.push (dlObj (X.env.qual ++ "<lambda>") params body scope (cloFrom X.env.cells scope.names []) ((X.mg "__name__").getD .none) (.ref c') ctv (.ref s1.heap.objs.size)), toks := tk } := I2.kept fun b o q => Heap.get?_push_of_some _ (kp b o q)
    exact h h1.objs.size s1.heap.objs.size c' _ ctv u H _ I3 (ExtN.refl H) hT rv ⟨Heap.get?_push_of_some _ (kp _ _ dGet), dFree, dNofr⟩ ⟨Heap.get?_push_size _ rfl, I1.hok.fresh (by omega), new_nofr I1 (by omega)⟩ hco
  | none =>
    refine dl_new (mg := X.mg) (c := c) (P := P) (ps := ps) (closure_ok hfree) I2.ok.glob (I2.mod.glob.keeps I2.bk) hcode (TB.code.keeps I2.bk) gP ok e TB.gP bl fun c' ctv h1 tk ext ge lt rec tab => ?_
    obtain ⟨c2, oc, vs, t, e2, hoc, hd, hv⟩ := rec
    cases e2
    have ge : (s1.heap.push (oneTup u)).objs.size ≤ c' := ge
    have ext : ∀ b o, b ≠ P → (s1.heap.push (oneTup u)).get? b = some o → h1.get? b = some o := ext
    have nC : H c' = none := I1.hok.fresh (by omega)
    have I3 := inv_table (t' := tk) (more := #[rawInt pos.line, rawInt pos.col, .ref c']) (h' := h1.push (dlObj (X.env.qual ++ "<lambda>") params body scope (cloFrom X.env.cells scope.names []) ((X.mg "__name__").getD .none) (.ref c') ctv (.ref s1.heap.objs.size))) I2 hP
      (fun b o hb q => Heap.get?_push_of_some _ (ext b o hb q)) (Heap.get?_push_of_some _ tab) ge ⟨oc, vs, t, Heap.get?_push_of_some _ hoc, hd, hv⟩
    obtain ⟨x1, x2⟩ := tabs_new (p0 := pos) (c' := c') hT hP ok at' nC hu
    have off : ∀ b, s1.heap.objs.size ≤ b → b ≠ c' → b ≠ P → upd (upd H P (.tbl (ps ++ #[rawInt pos.line, rawInt pos.col, .ref c']))) c' (CodeO c' (X.env.qual ++ "<lambda>")) b = none := fun b hb n1 n2 => by
      rw [upd_ne n1, upd_ne n2]
      exact I1.hok.fresh hb
    have hPlt : @LT.lt Nat _ P s1.heap.objs.size := I1.hok.lt hP
    have lt : @LT.lt Nat _ c' h1.objs.size := lt
    have ge : @LE.le Nat _ (s1.heap.push (oneTup u)).objs.size c' := ge
    have n1 : @Ne Nat s1.heap.objs.size c' := by omega
    have n2 : @LE.le Nat _ s1.heap.objs.size h1.objs.size := by omega
    have n3 : @Ne Nat h1.objs.size c' := by omega
    have n4 : @Ne Nat h1.objs.size P := by omega
    exact h h1.objs.size s1.heap.objs.size c' _ ctv u _ _ I3 x1 x2 rv ⟨Heap.get?_push_of_some _ (ext _ _ nDP dGet), off _ (Nat.le_refl _) n1 nDP, dNofr⟩ ⟨Heap.get?_push_size _ rfl, off _ n2 n3 n4, new_nofr I1 n2⟩ upd_same
end
/-! ### its names, its call -/
/-- one name of its own, a, that the maker doesn't use; captured ones and globals -/
structure LamD (sc scope : Scope) (a : Str) (N : List Str) : Prop where
  kind : scope.kind = .function
  co : scope.isCoroutine = false
  gen : scope.isGenerator = false
  noc : ∀ y ∈ scope.names, y.2 ≠ .cell
  own : ∀ y ∈ scope.names, y.2 = .local → y.1 = a
  par : scope.names.lookup a = some .local
  out : a ∉ N
  free : ∀ y ∈ scope.names, y.2 = .free → sc.names.lookup y.1 = some .cell ∨ sc.names.lookup y.1 = some .free
def lamDB (sc scope : Scope) (a : Str) (N : List Str) : Bool :=
  decide (scope.kind = .function) && (!scope.isCoroutine && (!scope.isGenerator && (decide (scope.names.lookup a = some .local) && (!N.contains a &&
    scope.names.all fun y => !decide (y.2 = .cell) && ((!decide (y.2 = .local) || decide (y.1 = a)) && (!decide (y.2 = .free) || (decide (sc.names.lookup y.1 = some .cell) || decide (sc.names.lookup y.1 = some .free))))))))
theorem lamD_by {sc scope : Scope} {a : Str} {N : List Str} (h : lamDB sc scope a N = true) : LamD sc scope a N := by
  unfold lamDB at h
  simp only [Bool.and_eq_true, Bool.or_eq_true, Bool.not_eq_true', decide_eq_true_eq, decide_eq_false_iff_not, List.all_eq_true] at h
  obtain ⟨h1, h2, h3, h4, h5, h6⟩ := h
  refine ⟨h1, h2, h3, fun y hy => (h6 y hy).1, fun y hy e => (h6 y hy).2.1.resolve_left fun z => z e, h4, fun z => ?_, fun y hy e => (h6 y hy).2.2.resolve_left fun z => z e⟩
  rw [List.contains_iff_mem.mpr z] at h5
  cases h5
theorem LamD.has {X : Cx} {scope : Scope} {a : Str} {N : List Str} (L : LamD X.env.scope scope a N) (ok : X.Ok) : ∀ y ∈ scope.names, y.2 = .free → ∃ c, X.env.cells.lookup y.1 = some c :=
  fun y hy e => ok.has _ ((L.free y hy e).elim (fun k => .inl k) fun k => .inr k)
section
variable {X : Cx} {pins : List (Addr × Obj)} {σ : L2.St} {H HZ : Hp} {s s1 : Shared}
theorem dl_start {A : Around} {outer : List Env} {E : XK} {scope : Scope} {f c' : Addr} {a : Str} {u : Value} {h1 : Heap} {tk : Nat} (I : Inv X pins σ H s) (L : LamD X.env.scope scope a X.N) (e0 : Env0 X.prog X.w X.K X.mg X.base A outer s1 HZ) (hd : A.handled = none)
    (un : Un (frs X.stack) [] H HZ s.heap s1.heap) (hns : h1.Ns s1.heap.objs.size fun y => ([(a, u)] : List (Str × Value)).reverse.lookup y) (kp : ∀ b o, s1.heap.get? b = some o → h1.get? b = some o) :
    Inv (lamCx X A outer s1 HZ E scope f c') [] σ HZ { s1 with heap := h1, toks := tk } := by
  have caught : ∀ {y c}, (cloFrom X.env.cells scope.names []).lookup y = some c → X.env.cells.lookup y = some c := fun {y c} e => by
    rcases cloFrom_mem (PySem.mem_of_lookup e) with hm | ⟨h1, h2⟩
    · cases hm
    · obtain ⟨c1, hc⟩ := L.has I.ok _ h1 rfl
      have hc : X.env.cells.lookup y = some c1 := hc
      rw [hc] at h2
      rw [show c = c1 from h2]
      exact hc
  have looks : ∀ {y}, scope.names.lookup y = some .free → ∃ c, (cloFrom X.env.cells scope.names []).lookup y = some c := fun {y} hl => mem_lookup (cloFrom_has (cells := X.env.cells) (acc := []) (PySem.mem_of_lookup hl))
  have stays : ∀ {c : Addr} {v : Option Value}, H c = none → s.heap.IsCell c v → h1.IsCell c v := fun {c v} n ⟨o, ho, hd⟩ => by
    obtain ⟨sl, q⟩ := un.any ho n (by simp)
    exact ⟨_, kp _ _ q, hd⟩
  have noX : ∀ b : Addr, b ∉ (lamCx X A outer s1 HZ E scope f c').ex := fun b z => absurd (show b ∈ ([] : List Addr) from z) (by simp)
  have okX : (lamCx X A outer s1 HZ E scope f c').Ok := by
    refine ⟨e0.mod, L.kind, rfl, rfl, Nat.le_refl _, fun y z c h1 h2 => I.ok.inj y z c (caught h1) (caught h2), fun y hy => ?_, fun _ _ z _ => Bool.noConfusion (show false = true from z), fun _ => hd, Around.frames_deeper e0.frames, .inr ⟨rfl, rfl⟩, fun b z => absurd z (noX b), e0.bs, e0.bsz, fun b _ _ => noX b,
      fun b z => absurd z (noX b), e0.funs, e0.frf⟩
    have hy : scope.names.lookup y = some .cell ∨ scope.names.lookup y = some .free := hy
    exact hy.elim (fun hy => absurd rfl (L.noc _ (PySem.mem_of_lookup hy))) looks
  refine ⟨okX, rfl, e0.bare, Un.kept kp, ⟨_, hns, fun i y v g1 g2 g3 => ?_⟩, fun y c e => ?_, e0.hok.fresh (Nat.le_refl _), fun y c e => ?_, fun q hq => absurd (show q ∈ ([] : List (Addr × Obj)) ++ [] from hq) (by simp), e0.hok.kept kp, I.len⟩
  · have g3 : Vis scope y := g3
    rcases g3 with k | k | k
    · have e := L.own _ (PySem.mem_of_lookup k) rfl
      have e : y = a := e
      exact absurd (List.mem_of_getElem? g1) (by rw [e]; exact L.out)
    · exact absurd rfl (L.noc _ (PySem.mem_of_lookup k))
    · obtain ⟨m, hn, hl⟩ := I.loc
      have fr := L.free _ (PySem.mem_of_lookup k) rfl
      obtain ⟨w', r, q⟩ := hl i y v g1 g2 (fr.elim (fun k => .inr (.inl k)) fun k => .inr (.inr k))
      obtain ⟨c2, h2⟩ := looks k
      have c1 := caught h2
      refine ⟨w', r, .inr ⟨.inr k, c2, h2, ?_⟩⟩
      rcases q with ⟨kl, _⟩ | ⟨_, c3, e', z⟩
      · have kl : X.env.scope.names.lookup y = some .local := kl
        rcases fr with k2 | k2 <;> rw [show X.env.scope.names.lookup y = _ from k2] at kl <;> cases kl
      · rw [c1] at e'
        cases e'
        exact stays (I.freeC y _ c1) z
  · obtain ⟨w', z⟩ := I.cell y c (caught e)
    exact ⟨w', stays (I.freeC y c (caught e)) z⟩
  · obtain ⟨v, o, ho, hd⟩ := I.cell y c (caught e)
    exact un.free c o ho (I.freeC y c (caught e)) (by simp)
/-- it is called, in the def that got it -/
theorem dl_act {CXg : CXT} {Eg : XK} {Ng : List Str} {qg x : Str} {sg : Scope} {g f D c' : Addr} {cdg pm ctv u : Value} {params : Arguments} {body : Expr} {scope : Scope} {k i : Nat} {a : Str} {pn : List (Addr × Obj)} {xe : Value → Shared → Prop} {W : WX} {E : XK} {tb : TE} {p1 p2 : Pos}
    (I : Inv X pins σ H s) (L : LamD X.env.scope scope a X.N) (hf : Loose X H s f (dlObj (X.env.qual ++ "<lambda>") params body scope (cloFrom X.env.cells scope.names []) pm (.ref c') ctv (.ref D))) (hD : Loose X H s D (oneTup u))
    (hb : ∀ s2 : Shared, s2.heap.get? D = some (oneTup u) → BindsTo s2 (dlFn (X.env.qual ++ "<lambda>") params body scope (cloFrom X.env.cells scope.names []) pm (.ref c') ctv (.ref D)) ⟨[], []⟩ [(a, u)])
    (tk : Takes ((cxOf CXg X.prog X.w X.K X.mg X.base Ng qg sg g cdg X.A X.stack s H Eg).tr pn xe) W) (hW : ∀ cls d σ' H', E cls d H' → W cls d σ' H') (hr : Room (k + 1) (X.A.deeper (envOfC qg sg s.heap.objs.size g cdg)))
    (bodyOk : ∀ (A : Around) (outer : List Env) (s : Shared) (H : Hp), Room k (A.deeper (lamEnv X scope s.heap.objs.size f c')) → PE (lamCx X A outer s H E scope f c') body tb)
    (hN : Ng[i]? = some x) (hv : Vis sg x) (n1 : (x == ("__debug__" : Str)) = false := by decide) (n2 : (x == ("__classdict__" : Str)) = false := by decide) :
    PE ((cxOf CXg X.prog X.w X.K X.mg X.base Ng qg sg g cdg X.A X.stack s H Eg).tr pn xe) (.Call (.Name x p1) [] [] p2)
      (fun σZ HZ Q => σZ[i]? = some (some (.ref f)) ∧ HZ c' = some (CodeO c' (X.env.qual ++ "<lambda>")) ∧ tb σ HZ Q) := by
  refine ⟨fun pinsZ sZ σZ HZ Q IZ ⟨hs, hc, ht⟩ => wpAny_Call_Name_kw (thn ((pe_var (pos := p1) (i := i) hN hv n1 n2).run pinsZ sZ σZ HZ (fun v H1 => v = .ref f ∧ H1 = HZ) IZ ⟨.ref f, hs, rfl, rfl⟩) fun w s1 ⟨v, H1, I1, r1, ev, eH⟩ => ?_)⟩
  subst ev
  rw [eH] at I1
  obtain rfl : w = Value.ref f := r1
  have still : ∀ {b : Addr} {o : Obj}, Loose X H s b o → s1.heap.get? b = some o := fun {b o} l => I1.base.keep b o l.get l.free l.nofr (fun z => nomatch (show b ∈ ([] : List Addr) from z))
  refine PySem.W.callWith_F0 ⟨_, _, _, _, still hf⟩ ?_
  obtain ⟨⟨oc, vs, t, hoc, hdc, hvc⟩, _, _⟩ := I1.hok c' _ hc
  have run : codeAny (model X.prog X.w) (X.A.deeper (envOfC qg sg s.heap.objs.size g cdg)) (.call (.ref f) ⟨[], []⟩) (CR (L2.CX X.prog X.w) (envOfC qg sg s.heap.objs.size g cdg :: X.stack) X.prog X.w HZ s1 Q E) s1 := by
    refine PySem.W.kla_callFunE hr.depth (still hf) rfl L.co L.gen rfl ⟨c', oc, vs, t, rfl, hoc, hdc, hvc⟩ (hb s1 (still hD) _ _ _ _ ?_)
    refine wpAny_newFunctionEnv (fun y hy => L.noc y hy) (fun y hy => ?_) (fun h1 hns hsb => ⟨I1.nolimit.fresh _ hsb, ?_⟩) L.kind
    · obtain rfl := List.mem_singleton.mp hy
      exact L.par
    show codeAny _ _ (.expr body (lamEnv X scope s1.heap.objs.size f c')) _ _
    have kp : ∀ b o, s1.heap.get? b = some o → h1.get? b = some o := fun b o e => hsb.extBut b o (Nat.ne_of_lt (Heap.lt_size e)) (Heap.get?_push_of_some _ e)
    have J : Inv (lamCx X (X.A.deeper (envOfC qg sg s.heap.objs.size g cdg)) (envOfC qg sg s.heap.objs.size g cdg :: X.stack) s1 HZ E scope f c') [] σ HZ { s1 with heap := h1, toks := s1.toks + ([(a, u)] : List (Str × Value)).length } :=
      dl_start I L I1.env0 hr.hd I1.base hns kp
    refine PySem.W.kla_codeExpr (wpAny_mono ((bodyOk _ _ s1 HZ (hr.deeper _)).run [] _ _ HZ Q J ht) (fun v s' hq => ?_) fun _ _ hq => hq)
    obtain ⟨y, H', J', rv, q⟩ := hq
    exact ⟨y, H', J'.os, J'.bare, J'.base, J'.hok, rv, q⟩
  have hx : Passes (L2.CX X.prog X.w) ((cxOf CXg X.prog X.w X.K X.mg X.base Ng qg sg g cdg X.A X.stack s H Eg).tr pn xe) E := passes_call tk hW
  refine wpAny_call (codeAny_mono run fun r s' hq => ?_)
  match r, hq with
  | .error e, hq => exact hx pinsZ σZ HZ s1 e s' I1 hq
  | .ok (.ret u), hq => exact I1.after hq
  | .ok .next, hq => exact hq.elim
  | .ok .brk, hq => exact hq.elim
  | .ok .cont, hq => exact hq.elim
/-- g(lambda a=z: body) -/
theorem pe_dlcall {T : List (Addr × Str)} {TT : (XK → Hp → VK → Prop) → Hp → VK → Prop} {x y a : Str} {g c P : Addr} {k j : Nat} {z : Int} {pg : Arguments} {bg : List Stmt} {sg : Scope} {dV kV doc pm cdv ct oc : Value} {an od : Option Addr} {osl : Array (Option Value)} {Ng : List Str}
    {params : Arguments} {body : Expr} {scope : Scope} {t : XK → TE} {p p0 lpos pos : Pos} (hg : Gl X x) (hm : X.mg x = some (.ref g)) (hk : PySem.W.keepIn X.K (.ref g) = true)
    (lk : X.K.lookup g = some ⟨oc, od, .func (PySem.W.fnOf x x pg bg sg dV kV doc pm an cdv ct), osl⟩) (hcg : PySem.W.codeIn X.K cdv x = true) (hb : L2.Binds X.K (PySem.W.fnOf x x pg bg sg dV kV doc pm an cdv ct) [y] []) (Sg : FnScope Ng [y] sg) (hNg : Ng[0]? = some y) (hva : Vis sg y)
    (hG : GivesTo X Ng x sg g cdv bg y (X.env.qual ++ "<lambda>") TT)
    (TB : TabB X.base X.mg c P) (hcode : X.env.code = .ref c) (hmT : (P, X.env.qual ++ "<lambda>") ∈ T) (hu : ∀ p ∈ T, p.1 = P → p.2 = X.env.qual ++ "<lambda>") (hr : Room (k + 2) X.A) (L : LamD X.env.scope scope a X.N)
    (hdef : defaultsOf params X.env = ([eval (.Constant (.int z) j p0) X.env], [])) (hkw : params.kwonlyargs = [])
    (binds : ∀ (q : Str) (cl : List (Str × Addr)) (pm cv ctv u : Value) (D : Addr) (s2 : Shared), s2.heap.get? D = some (oneTup u) → BindsTo s2 (dlFn q params body scope cl pm cv ctv (.ref D)) ⟨[], []⟩ [(a, u)])
    (bodyOk : ∀ (A : Around) (outer : List Env) (s : Shared) (H : Hp) (E : XK) (f c' : Addr), Room k (A.deeper (lamEnv X scope s.heap.objs.size f c')) → PE (lamCx X A outer s H E scope f c') body (t E))
    (n0 : (x == ("__debug__" : Str)) = false := by decide) (n1 : (y == ("__debug__" : Str)) = false := by decide) (n2 : (y == ("__classdict__" : Str)) = false := by decide) :
    PE X (.Call (.Name x p) [.Lambda params body scope lpos] [] pos) (tLam T TT t) := by
  refine ⟨fun pins s σ H Q I ⟨hT, h⟩ => wpAny_Call_Name_kw (ld_glob I hg hm (PySem.W.callWith_K (h₀ := X.base) I.ok.mod.kin hk ?_ (by rfl) (by rfl)) n0)⟩
  show wpAny _ _ (spliced ((false, eval (.Lambda params body scope lpos) X.env) :: backTo pos (starEach [] X.env))) _ _ s
  refine Calls.spliced_cons (dl_make I TB hcode hmT hu hT hdef hkw (L.has I.ok) (fun _ _ z => z) fun f D c' pm' ctv u H1 s' I1 eN T1 ru hD hf hco => Calls.spliced_nil ⟨I1.kIn, ?_⟩)
  have run : codeAny (model X.prog X.w) X.A (.call (.ref g) ⟨[.ref f], []⟩) (CR C8.CX0 X.stack X.prog X.w H1 s' Q C8.E0) s' := by
    refine run_ofS (N := Ng) (ps := [y]) (us := [.ref f]) (vs := [.ref f]) lk hcg Sg hr I1.env0 (hb s' [.ref f] I1.kIn rfl) (.cons rfl .nil) rfl fun hr' => ?_
    obtain ⟨t', ht', hq'⟩ := hG f c' s' H1 Q (fun E H' Q' => t E σ H' Q') (fun W pn xe E p1 p2 tk hW => dl_act (i := 0) I1 L hf hD (fun s2 q => binds _ _ _ _ _ _ _ s2 q) tk hW hr' (fun A outer s H hr2 => bodyOk A outer s H E f c' hr2) hNg hva n1 n2) hco (h H1 eN T1)
    exact ⟨t', ht'.nox, hq'⟩
  refine wpAny_call (codeAny_mono run fun r s2 hq => ?_)
  match r, hq with
  | .error e, hq => exact (show False from hq).elim
  | .ok (.ret u), hq => exact I1.after hq
  | .ok .next, hq => exact hq.elim
  | .ok .brk, hq => exact hq.elim
  | .ok .cont, hq => exact hq.elim
end
end VG

set_option maxRecDepth 100000
/-! Data: their types, their sizes, data that stand on new addresses alone. -/
namespace VG
open PySem PySem.Spec PyProof.Rows L2
def tyN : PyData → String
  | .none => "NoneType"
  | .bool _ => "bool"
  | .int _ => "int"
  | .str _ => "str"
  | .list _ => "list"
  | .tuple _ => "tuple"
  | .dict _ => "dict"
theorem tyx_list {K : PySem.W.Frag} {H : Hp} {a : Addr} {xs : List V} (h : SqL K H a xs) : TyX K H (.ref a) (.type "list") := by
  rcases h with (h | ⟨o, h⟩) | ⟨o, its, n, h, c, _⟩
  · exact .base (.lst h)
  · exact .base (.frz h)
  · exact .kList h c
theorem tyx_tup {K : PySem.W.Frag} {H : Hp} {a : Addr} {xs : List V} (h : SqT K H a xs) : TyX K H (.ref a) (.type "tuple") := by
  rcases h with (h | ⟨o, h⟩) | ⟨o, its, n, h, c, _⟩
  · exact .base (.tup h)
  · exact .fTuple h
  · exact .kTuple h c
theorem Dp.tyx {K : PySem.W.Frag} {H : Hp} : ∀ {v : V} {d : PyData}, Dp K H v d → TyX K H v (.type (tyN d))
  | _, _, .non => .base .non
  | _, _, .bl b => .base (.bl b)
  | _, _, .int i => .base (.int i)
  | _, _, .str x => .base (.str x)
  | _, _, .lst h _ => tyx_list h
  | _, _, .tup h _ => tyx_tup h
/-- at most n deep, at most 1000 wide -/
def fit : Nat → PyData → Bool
  | _, .none => true
  | _, .bool _ => true
  | _, .int _ => true
  | _, .str _ => true
  | n + 1, .list ds => decide (ds.length ≤ 1000) && ds.all (fit n)
  | n + 1, .tuple ds => decide (ds.length ≤ 1000) && ds.all (fit n)
  | _, _ => false
/-- what H' has more than H -/
def newer (H H' : Hp) : Hp := fun b => match H b with | none => H' b | some _ => none
theorem newer_at {H H' : Hp} {b : Addr} (h : H b = none) : newer H H' b = H' b := by unfold newer; rw [h]
theorem newer_none {H H' : Hp} {b : Addr} {o : HO} (h : H b = some o) : newer H H' b = none := by unfold newer; rw [h]
theorem newer_sub {H H' : Hp} : Same (newer H H') H' := fun b o e => by
  cases h : H b with
  | none => rw [newer_at h] at e; exact e
  | some u => rw [newer_none h] at e; cases e
/-- fewer were there ahead, more stand now -/
theorem newer_mono {H G H' G' : Hp} (h : ∀ b, H b = none → G b = none) (s : ∀ b, G b = none → ∀ o, H' b = some o → G' b = some o) : Same (newer H H') (newer G G') := fun b o e => by
  cases z : H b with
  | none =>
    rw [newer_at z] at e
    rw [newer_at (h b z)]
    exact s b (h b z) o e
  | some u =>
    rw [newer_none z] at e
    cases e
theorem DpAll.at' {K : PySem.W.Frag} {H : Hp} : ∀ {xs : List V} {ds : List PyData} {i : Nat} {x : V}, DpAll K H xs ds → xs[i]? = some x → ∃ d, ds[i]? = some d ∧ Dp K H x d
  | _, _, 0, _, .cons h _, e => by
    cases e
    exact ⟨_, rfl, h⟩
  | _, _, i + 1, _, .cons _ t, e => DpAll.at' (i := i) t e
theorem DpAll.len {K : PySem.W.Frag} {H : Hp} : ∀ {xs : List V} {ds : List PyData}, DpAll K H xs ds → xs.length = ds.length
  | _, _, .nil => rfl
  | _, _, .cons _ t => congrArg (· + 1) (DpAll.len t)
theorem DpAll.snoc {K : PySem.W.Frag} {H : Hp} {y : V} {d : PyData} (h : Dp K H y d) : ∀ {xs : List V} {ds : List PyData}, DpAll K H xs ds → DpAll K H (xs ++ [y]) (ds ++ [d])
  | _, _, .nil => .cons h .nil
  | _, _, .cons g t => .cons g (DpAll.snoc h t)
/-- while a list of copies grows at D: what is there -/
structure Copying (K : PySem.W.Frag) (H : Hp) (D : Addr) (ds : List PyData) (i : Nat) (G : Hp) : Prop where
  ex : ∃ acc, G D = some (.lst acc) ∧ acc.length = i ∧ DpAll K (newer (upd H D (.lst [])) G) acc (ds.take i)
  same : Same H G
theorem Copying.start {K : PySem.W.Frag} {H : Hp} {D : Addr} {ds : List PyData} (hD : H D = none) : Copying K H D ds 0 (upd H D (.lst [])) :=
  ⟨⟨[], upd_same, rfl, .nil⟩, fun b o e => by rw [upd_ne (ne_of_none e hD)]; exact e⟩
theorem Copying.more {K : PySem.W.Frag} {H G G' : Hp} {D : Addr} {ds : List PyData} {i : Nat} {d : PyData} {y : V} (hD : H D = none) (c : Copying K H D ds i G) (hd : ds[i]? = some d) (s : Same G G') (hy : Dp K (newer G G') y d) :
    ∃ acc, G' D = some (.lst acc) ∧ acc.length = i ∧ Copying K H D ds (i + 1) (upd G' D (.lst (acc ++ [y]))) := by
  obtain ⟨⟨acc, ea, el, ed⟩, sm⟩ := c
  have off : ∀ {b : Addr} {u : HO}, b ≠ D → upd G' D u b = G' b := fun h => upd_ne h
  refine ⟨acc, s _ _ ea, el, ⟨acc ++ [y], upd_same, by rw [List.length_append, el]; rfl, ?_⟩, fun b o e => by rw [off (ne_of_none e hD)]; exact s _ _ (sm _ _ e)⟩
  have et : ds.take (i + 1) = ds.take i ++ [d] := by
    rw [List.take_add_one, hd]
    rfl
  rw [et]
  refine DpAll.snoc (Dp.same (newer_mono (fun b z => ?_) fun b z o e => ?_) d y hy) (DpAll.same (newer_mono (fun b z => z) fun b z o e => ?_) _ _ ed)
  · have n : b ≠ D := fun q => by
      rw [q, ea] at z
      cases z
    rw [upd_ne n]
    cases q : H b with
    | none => rfl
    | some o =>
      rw [sm b o q] at z
      cases z
  · have n : b ≠ D := fun q => by
      rw [q, upd_same] at z
      cases z
    rw [off n]
    exact e
  · have n : b ≠ D := fun q => by
      rw [q, upd_same] at z
      cases z
    rw [off n]
    exact s _ _ e
theorem Copying.all {K : PySem.W.Frag} {H G : Hp} {D : Addr} {ds : List PyData} (hD : H D = none) (c : Copying K H D ds ds.length G) : ∃ acc, G D = some (.lst acc) ∧ DpAll K (newer H G) acc ds := by
  obtain ⟨⟨acc, ea, _, ed⟩, sm⟩ := c
  rw [List.take_length] at ed
  refine ⟨acc, ea, DpAll.same (newer_mono (fun b z => ?_) fun b _ o e => e) _ _ ed⟩
  by_cases n : b = D
  · rw [n]
    exact hD
  · rw [upd_ne n] at z
    exact z
/-- copied(x), x data at most n deep: the same data on new addresses -/
def spCopy (K : PySem.W.Frag) (n : Nat) : Sp := fun vs H Q _ => ∃ (x : V) (d : PyData), vs = [x] ∧ Dp K H x d ∧ fit n d = true ∧ ∀ (y : V) (H' : Hp), Same H H' → Dp K (newer H H') y d → Q y H'
def spPrev (K : PySem.W.Frag) : Nat → Sp
  | 0 => fun _ _ _ _ => False
  | n + 1 => spCopy K n
/-- how the rest of such a def is told of a scalar -/
theorem dp_newer {K : PySem.W.Frag} {H G : Hp} {x : V} {d : PyData} (h : Dp K H x d) (n1 : ∀ ds, d ≠ .list ds) (n2 : ∀ ds, d ≠ .tuple ds) : Dp K G x d := by
  cases h with
  | non => exact .non
  | bl b => exact .bl b
  | int i => exact .int i
  | str z => exact .str z
  | lst => exact absurd rfl (n1 _)
  | tup => exact absurd rfl (n2 _)
end VG

set_option maxRecDepth 100000
/-! Own errors: an __init__ that calls super().__init__('..'), keeps copies of what it got, then the name of its class as its code. -/
namespace VG
open PySem PySem.Spec PyProof.Rows L2
/-- without what is told by a property alone -/
def nox (H : Hp) : Hp := fun b => match H b with
  | some (.ext _) => none
  | o => o
theorem nox_of {H : Hp} {b : Addr} {o : HO} (h : H b = some o) (n : ∀ φ, o ≠ .ext φ) : nox H b = some o := by
  unfold nox
  rw [h]
  cases o <;> first | rfl | exact absurd rfl (n _)
theorem of_nox {H : Hp} {b : Addr} {o : HO} (h : nox H b = some o) : H b = some o ∧ ∀ φ, o ≠ .ext φ := by
  unfold nox at h
  cases e : H b with
  | none =>
    rw [e] at h
    cases h
  | some u =>
    rw [e] at h
    cases u <;> cases h <;> exact ⟨rfl, fun φ z => by cases z⟩
theorem SqL.nox {K : PySem.W.Frag} {H : Hp} {a : Addr} {xs : List V} (h : SqL K H a xs) : SqL K (VG.nox H) a xs := by
  rcases h with (h | ⟨o, h⟩) | h
  · exact .inl (.inl (nox_of h fun _ z => by cases z))
  · exact .inl (.inr ⟨o, nox_of h fun _ z => by cases z⟩)
  · exact .inr h
theorem SqT.nox {K : PySem.W.Frag} {H : Hp} {a : Addr} {xs : List V} (h : SqT K H a xs) : SqT K (VG.nox H) a xs := by
  rcases h with (h | ⟨o, h⟩) | h
  · exact .inl (.inl (nox_of h fun _ z => by cases z))
  · exact .inl (.inr ⟨o, nox_of h fun _ z => by cases z⟩)
  · exact .inr h
mutual
theorem Dp.nox {K : PySem.W.Frag} {H : Hp} : ∀ (d : PyData) (v : V), Dp K H v d → Dp K (VG.nox H) v d
  | .none, _, h => by cases h; exact .non
  | .bool b, _, h => by cases h; exact .bl b
  | .int i, _, h => by cases h; exact .int i
  | .str x, _, h => by cases h; exact .str x
  | .list ds, _, h => by
    cases h with
    | lst hs hd => exact .lst (SqL.nox hs) (DpAll.nox ds _ hd)
  | .tuple ds, _, h => by
    cases h with
    | tup hs hd => exact .tup (SqT.nox hs) (DpAll.nox ds _ hd)
  | .dict _, _, h => by cases h
theorem DpAll.nox {K : PySem.W.Frag} {H : Hp} : ∀ (ds : List PyData) (vs : List V), DpAll K H vs ds → DpAll K (VG.nox H) vs ds
  | [], _, h => by cases h; exact .nil
  | d :: ds, _, h => by
    cases h with
    | cons h t => exact .cons (Dp.nox d _ h) (DpAll.nox ds _ t)
end
/-- fields and the data that they hold -/
def FlOk (K : PySem.W.Frag) (H : Hp) (fs : List (Str × V)) (FL : List (Str × PyData)) : Prop := fs.map (·.1) = FL.map (·.1) ∧ DpAll K H (fs.map (·.2)) (FL.map (·.2))
theorem FlOk.nil {K : PySem.W.Frag} {H : Hp} : FlOk K H [] [] := ⟨rfl, .nil⟩
theorem FlOk.cons {K : PySem.W.Frag} {H : Hp} {fs : List (Str × V)} {FL : List (Str × PyData)} {f : Str} {v : V} {d : PyData} (h : Dp K H v d) (t : FlOk K H fs FL) : FlOk K H ((f, v) :: fs) ((f, d) :: FL) :=
  ⟨congrArg (f :: ·) t.1, .cons h t.2⟩
theorem FlOk.same {K : PySem.W.Frag} {H H' : Hp} {fs : List (Str × V)} {FL : List (Str × PyData)} (e : Same H H') (t : FlOk K H fs FL) : FlOk K H' fs FL := ⟨t.1, DpAll.same e _ _ t.2⟩
theorem FlOk.len {K : PySem.W.Frag} {H : Hp} {fs : List (Str × V)} {FL : List (Str × PyData)} (t : FlOk K H fs FL) : fs.length = FL.length := by
  have z := congrArg List.length t.1
  rw [List.length_map, List.length_map] at z
  exact z
theorem FlOk.get {K : PySem.W.Frag} {H : Hp} {f : Str} {d : PyData} : ∀ {fs : List (Str × V)} {FL : List (Str × PyData)}, FlOk K H fs FL → FL.lookup f = some d → ∃ v, fs.lookup f = some v ∧ Dp K H v d
  | [], [], _, h => by cases h
  | (g, v) :: fs, (g', e) :: FL, ⟨h1, h2⟩, h => by
    have h1 := List.cons.inj h1
    have eg : g = g' := h1.1
    subst eg
    have h2 : DpAll K H (v :: fs.map (·.2)) (e :: FL.map (·.2)) := h2
    cases h2 with
    | cons hv ht =>
      rw [List.lookup_cons] at h ⊢
      cases q : f == g with
      | true =>
        rw [q] at h
        cases h
        exact ⟨v, rfl, hv⟩
      | false =>
        rw [q] at h
        exact FlOk.get ⟨h1.2, ht⟩ h
  | [], _ :: _, ⟨h, _⟩, _ => by cases h
  | _ :: _, [], ⟨h, _⟩, _ => by cases h
/-- an error at a is being made: H behind super().__init__, G now, FL what it holds (the last first) -/
structure Stg (K : PySem.W.Frag) (H : Hp) (a C : Addr) (FL : List (Str × PyData)) (G : Hp) : Prop where
  ex : ∃ fs, FlOk K (nox (newer H G)) fs FL ∧ ((FL = [] ∧ G a = some (exo a C none)) ∨ ∃ dx, H dx = none ∧ dx ≠ a ∧ G a = some (exo a C (some dx)) ∧ G dx = some (exd dx fs))
  but : ∀ b o, b ≠ a → H b = some o → G b = some o
  at_ : (H a).isSome = true
section
variable {K : PySem.W.Frag} {H G G1 : Hp} {a C : Addr} {FL : List (Str × PyData)}
theorem Stg.start (h : H a = some (exo a C none)) : Stg K H a C [] H := ⟨⟨[], .nil, .inl ⟨rfl, h⟩⟩, fun _ _ _ e => e, by rw [h]; rfl⟩
theorem Stg.on (s : Stg K H a C FL G) (sm : Same G G1) : Stg K H a C FL G1 := by
  obtain ⟨⟨fs, hf, hx⟩, but, ha⟩ := s
  refine ⟨⟨fs, hf.same fun b o e => ?_, ?_⟩, fun b o n e => sm _ _ (but b o n e), ha⟩
  · obtain ⟨e1, e2⟩ := of_nox e
    exact nox_of (newer_mono (fun _ z => z) (fun b _ o q => sm b o q) b o e1) e2
  · rcases hx with ⟨e1, e2⟩ | ⟨dx, h1, h2, h3, h4⟩
    · exact .inl ⟨e1, sm _ _ e2⟩
    · exact .inr ⟨dx, h1, h2, sm _ _ h3, sm _ _ h4⟩
theorem exo_ext {φ : HO} {e C : Addr} {d : Option Addr} (h : φ = exo e C d) : ∃ ψ, φ = .ext ψ := ⟨_, h⟩
/-- a field is stored -/
theorem Stg.store {σ : L2.St} {R : L2.St → Hp → Prop} {f : Str} {y : V} {d : PyData} (s : Stg K H a C FL G) (hy : Dp K (nox (newer H G)) y d) (hl : FL.length ≤ 900) (next : ∀ G', Stg K H a C ((f, d) :: FL) G' → R σ G') :
    (G a = some (exo a C none) ∧ ∀ dx, G dx = none → dx ≠ a → R σ (upd (upd G dx (exd dx [(f, y)])) a (exo a C (some dx)))) ∨
      ∃ (dx : Addr) (fs : List (Str × V)), G a = some (exo a C (some dx)) ∧ G dx = some (exd dx fs) ∧ fs.length ≤ 900 ∧ R σ (upd G dx (exd dx ((f, y) :: fs))) := by
  obtain ⟨⟨fs, hf, hx⟩, but, ha⟩ := s
  have nH : ∀ {b : Addr}, G b = none → b ≠ a → H b = none := fun {b} z n => by
    cases q : H b with
    | none => rfl
    | some o =>
      rw [but b o n q] at z
      cases z
  have nA : ∀ {b : Addr} {o : HO}, newer H G b = some o → b ≠ a := fun {b o} e z => by
    obtain ⟨u, hu⟩ := Option.isSome_iff_exists.mp ha
    rw [z, newer_none hu] at e
    cases e
  rcases hx with ⟨rfl, e2⟩ | ⟨dx, h1, h2, h3, h4⟩
  · refine .inl ⟨e2, fun dx hdx ne => next _ ⟨⟨[(f, y)], ?_, .inr ⟨dx, nH hdx ne, ne, upd_same, by rw [upd_ne ne, upd_same]⟩⟩, fun b o n e => ?_, ha⟩⟩
    · refine FlOk.cons (Dp.same (fun b o e => ?_) d y hy) .nil
      obtain ⟨e1, e3⟩ := of_nox e
      refine nox_of (newer_mono (fun _ z => z) (fun b _ o q => ?_) b o (H := H) (G := H) (H' := fun b => if b = a then none else G b) ?_) e3
      · have q : (if b = a then none else G b) = some o := q
        by_cases n : b = a
        · rw [if_pos n] at q
          cases q
        · rw [if_neg n] at q
          rw [upd_ne n, upd_ne (ne_of_none q hdx)]
          exact q
      · have n := nA e1
        have z := newer_sub b o e1
        cases w : H b with
        | none =>
          rw [newer_at w, if_neg n]
          exact z
        | some u =>
          rw [newer_none w] at e1
          cases e1
    · rw [upd_ne n]
      have z := but b o n e
      rw [upd_ne (ne_of_none z hdx)]
      exact z
  · refine .inr ⟨dx, fs, h3, h4, by rw [hf.len]; exact hl, next _ ⟨⟨(f, y) :: fs, ?_, .inr ⟨dx, h1, h2, by rw [upd_ne (Ne.symm h2)]; exact h3, upd_same⟩⟩, fun b o n e => ?_, ha⟩⟩
    · have sm : Same (nox (newer H G)) (nox (newer H (upd G dx (exd dx ((f, y) :: fs))))) := fun b o e => by
        obtain ⟨e1, e3⟩ := of_nox e
        have z := newer_sub b o e1
        have nd : b ≠ dx := fun q => by
          rw [q, h4] at z
          exact e3 _ (Option.some.inj z).symm
        refine nox_of ?_ e3
        cases w : H b with
        | none =>
          rw [newer_at w, upd_ne nd]
          exact z
        | some u =>
          rw [newer_none w] at e1
          cases e1
      exact FlOk.cons (Dp.same sm d y hy) (hf.same sm)
    · have z := but b o n e
      rw [upd_ne (ne_of_none e h1)]
      exact z
end
/-! ### the statements of such an __init__ behind super().__init__('..') -/
/-- self.f = copied(par) for each field and the slot of its parameter, then self.code = self.__class__.__name__ -/
inductive IniSts (ps : List Str) : List (Str × Nat) → List Stmt → Prop where
  | code {x : Str} {p1 p2 p3 p4 p5 p6 : Pos} (h : ps[0]? = some x) : IniSts ps [] [.Assign [.Attribute (.Name x p1) "code" p2] (.Attribute (.Attribute (.Name x p3) "__class__" p4) "__name__" p5) p6]
  | fld {x y f : Str} {i : Nat} {l : List (Str × Nat)} {ss : List Stmt} {p1 p2 p3 p4 p5 p6 : Pos} (h : ps[0]? = some x) (hy : ps[i]? = some y) (t : IniSts ps l ss) :
      IniSts ps ((f, i) :: l) (.Assign [.Attribute (.Name x p1) f p2] (.Call (.Name "copied" p3) [.Name y p4] [] p5) p6 :: ss)
/-- what stands in the parameters' slots -/
def Args (K : PySem.W.Frag) (n : Nat) (σ : L2.St) (H : Hp) : List (Str × Nat) → List PyData → Prop
  | [], [] => True
  | p :: l, d :: ds => (∃ x, σ[p.2]? = some (some x) ∧ Dp K (nox H) x d ∧ fit n d = true) ∧ Args K n σ H l ds
  | _, _ => False
/-- the fields behind them, the last first -/
def after : List (Str × Nat) → List PyData → List (Str × PyData) → List (Str × PyData)
  | p :: l, d :: ds, FL => after l ds ((p.1, d) :: FL)
  | _, _, FL => FL
def tIni (K : PySem.W.Frag) (C : Addr) (nm : Str) (n : Nat) (l : List (Str × Nat)) : TS := fun D σ G => ∃ (H : Hp) (a : Addr) (FL : List (Str × PyData)) (rs : List PyData), σ[0]? = some (some (.ref a)) ∧ H a = some (exo a C none) ∧ Stg K H a C FL G ∧
  Args K n σ H l rs ∧ FL.length + l.length ≤ 100 ∧ ∀ G', Stg K H a C (("code", .str nm) :: after l rs FL) G' → D.nx σ G'
section
variable {X : Cx} {C fC : Addr} {fdC : FuncData} {k n : Nat} {nm : Str}
/-- an own error's class, as its __init__ needs it -/
structure IniC (K : PySem.W.Frag) (C : Addr) (nm : Str) : Prop where
  oex : OexC K C
  cls : ClsTxt K C nm
  own : OwnX K C
theorem pss_ini (hX : ∀ x i p, X.N[i]? = some x → PE X (.Name x p) (tVar i)) (T : IniC X.K C nm) (GC : FnOk X.prog X.w X.K X.mg X.base CX0 k fC fdC ["value"] (spCopy X.K n)) (hr : Room k X.A) (hg : Gl X "copied") (mC : X.mg "copied" = some (.ref fC))
    (hk : PySem.W.keepIn X.K (.ref fC) = true) (bC : L2.Binds X.K fdC ["value"] []) :
    ∀ {l : List (Str × Nat)} {ss : List Stmt}, (∀ p ∈ l, p.1 ∈ exFields) → IniSts X.N l ss → PSs X ss (tIni X.K C nm n l) := by
  intro l ss hf hs
  induction hs with
  | code h =>
    refine ⟨fun pins s σ H D I hh => (pss_one (ps_ost (hX _ 0 _ h) (pe_clsName (hX _ 0 _ h)))).run pins s σ H D I ?_⟩
    obtain ⟨H0, a, FL, rs, h0, hae, st, ha, hl, q⟩ := hh
    have ex : H a = some (exo a C none) ∨ ∃ (dx : Addr) (fs : List (Str × V)), H a = some (exo a C (some dx)) ∧ H dx = some (exd dx fs) := by
      obtain ⟨fs, _, ⟨_, e⟩ | ⟨dx, _, _, e1, e2⟩⟩ := st.ex
      · exact .inl e
      · exact .inr ⟨dx, fs, e1, e2⟩
    refine ⟨_, h0, a, C, nm, rfl, T.cls, ex, _, h0, a, C, rfl, T.oex, T.own.no _ (by decide), ?_⟩
    refine st.store (R := D.nx) (.str nm) (by have := hl; simp at this; omega) fun G' s' => q G' ?_
    match rs, ha with
    | [], _ => exact s'
  | @fld x y f i l ss p1 p2 p3 p4 p5 p6 h hy t ih =>
    have ih := ih fun p hp => hf p (List.mem_cons_of_mem _ hp)
    refine ⟨fun pins s σ H D I hh => (pss_cons (ps_ost (hX _ 0 _ h) (pe_call GC hr hg mC hk bC .nil pass0 (pa_cons (hX _ i _ hy) pa_nil))) ih).run pins s σ H D I ?_⟩
    obtain ⟨H0, a, FL, rs, h0, hae, st, ha, hl, q⟩ := hh
    match rs, ha with
    | d :: rs, ⟨⟨x, hx, hd, hfit⟩, ha⟩ =>
      have noxH : Same (nox H0) H := fun b o e => by
        obtain ⟨e1, e2⟩ := of_nox e
        refine st.but b o (fun z => ?_) e1
        rw [z, hae] at e1
        exact e2 _ (Option.some.inj e1).symm
      refine ⟨x, hx, x, d, rfl, Dp.same noxH d x hd, hfit, fun y G1 sm hy' => ⟨_, h0, a, C, rfl, T.oex, T.own.no _ (hf (f, i) List.mem_cons_self), ?_⟩⟩
      have st1 := st.on sm
      have hy2 : Dp X.K (nox (newer H0 G1)) y d := by
        refine Dp.nox d y (Dp.same (newer_mono (fun b z => ?_) fun _ _ _ e => e) d y hy')
        cases w : H0 b with
        | none => rfl
        | some o =>
          by_cases nb : b = a
          · obtain ⟨fs, _, ⟨_, e⟩ | ⟨dx, _, _, e1, e2⟩⟩ := st.ex
            · rw [nb, e] at z
              cases z
            · rw [nb, e1] at z
              cases z
          · rw [st.but b o nb w] at z
            cases z
      have hl : FL.length + (l.length + 1) ≤ 100 := hl
      refine st1.store (R := (_ : Ends).nx) hy2 (by omega) fun G' s' => ?_
      exact ⟨H0, a, (f, d) :: FL, rs, h0, hae, s', ha, by show FL.length + 1 + l.length ≤ 100; omega, q⟩
end
end VG
namespace VG
open PySem PySem.Spec PyProof.Rows L2
/-- __init__ of an own error: what it leaves -/
def spErr (K : PySem.W.Frag) (C : Addr) (nm : Str) (n m : Nat) (l : List (Str × Nat)) : Sp := fun vs H Q _ => ∃ (a : Addr) (xs : List V) (rs : List PyData), vs = .ref a :: xs ∧ vs.length = m ∧ H a = some (exo a C none) ∧ Args K n (vs.map some) H l rs ∧ l.length ≤ 100 ∧
  ∀ G', Stg K H a C (("code", .str nm) :: after l rs []) G' → Q .non G'
section
variable {P : Program} {w : World} {K : PySem.W.Frag} {mg : Str → Option Value} {base : Heap} {B i newId : String} {bmB : List Value} {C f cc cda fC : Addr} {qual : Str} {params : Arguments} {rest : List Stmt} {sc : Scope} {fd fdC : FuncData} {ps : List Str} {p0 p1 p2 p3 p4 p5 : Pos} {j k n : Nat} {z nm : Str} {self : Arg} {l : List (Str × Nat)}
theorem ok_ini (hev : SupEv p0 p1 p2 p3 p4 j z) (T : IniTxt P K mg B i newId bmB C f cc cda qual params (superInit p0 p1 p2 p3 p4 p5 j z :: rest) sc fd) (S : IniScope ps sc) (hself : (params.posonlyargs ++ params.args).head? = some self) (hp0 : ps[0]? = some self.arg)
    (TC : IniC K C nm) (GC : FnOk P w K mg base CX0 k fC fdC ["value"] (spCopy K n)) (hg : sc.names.lookup ("copied" : Str) = some .globalImplicit) (mC : mg "copied" = some (.ref fC)) (hk : PySem.W.keepIn K (.ref fC) = true) (bC : L2.Binds K fdC ["value"] [])
    (hps : ∀ x ∈ ps, (x == ("__debug__" : Str)) = false ∧ (x == ("__classdict__" : Str)) = false) (hf : ∀ p ∈ l, p.1 ∈ exFields) (hs : IniSts ps l rest) : FnOk P w K mg base CX0 (k + 1) f fd ps (spErr K C nm n ps.length l) := by
  refine ini_ok hev T S hself hp0 (fun vs H Q E h => ?_) fun A outer s H vs Q E hr h => ?_
  · obtain ⟨_, _, _, _, e, _⟩ := h
    exact e
  · obtain ⟨a, xs, rs, rfl, hl, hea, ha, hn, q⟩ := h
    refine ⟨a, xs, rfl, hea, _, pss_ini (X := iniCx P w K mg base ps qual sc f cda cc A outer s H) (C := C) (nm := nm) (n := n) (fun x i p hx => pe_var hx (.inl (S.par x (List.mem_of_getElem? hx))) (hps x (List.mem_of_getElem? hx)).1 (hps x (List.mem_of_getElem? hx)).2) TC GC hr hg mC hk bC hf hs, ?_⟩
    exact ⟨H, a, [], rs, rfl, hea, Stg.start hea, ha, by show 0 + l.length ≤ 100; omega, q⟩
end
end VG

set_option maxRecDepth 100000
/-! An own error is made and raised: what its class and its dict tell behind that. -/
namespace VG
open PySem PySem.Spec PyProof.Rows L2
/-- the dict of an error: its fields, the last first -/
def ErrD (K : PySem.W.Frag) (H : Hp) (dd : Addr) (FL : List (Str × PyData)) : Prop := ∃ fs, H dd = some (.xd fs) ∧ FlOk K H fs FL
theorem ErrD.same {K : PySem.W.Frag} {H H' : Hp} {dd : Addr} {FL : List (Str × PyData)} (e : Same H H') (h : ErrD K H dd FL) : ErrD K H' dd FL := by
  obtain ⟨fs, h1, h2⟩ := h
  exact ⟨fs, e _ _ h1, h2.same e⟩
def slots : Nat → List Str → List (Str × Nat)
  | _, [] => []
  | i, f :: fs => (f, i) :: slots (i + 1) fs
theorem slots_len : ∀ {i : Nat} {l : List Str}, (slots i l).length = l.length
  | _, [] => rfl
  | i, _ :: l => congrArg (· + 1) (slots_len (i := i + 1) (l := l))
theorem args_of {K : PySem.W.Frag} {n : Nat} {H : Hp} : ∀ {vs : List V} {ds : List PyData} {flds : List Str} {pre : List (Option V)}, DpAll K (nox H) vs ds → (∀ d ∈ ds, fit n d = true) → flds.length = vs.length → Args K n (pre ++ vs.map some) H (slots pre.length flds) ds
  | [], [], [], _, _, _, _ => trivial
  | v :: vs, d :: ds, f :: flds, pre, .cons h t, hf, hl => by
    refine ⟨⟨v, ?_, h, hf d List.mem_cons_self⟩, ?_⟩
    · show (pre ++ (some v :: vs.map some))[pre.length]? = _
      rw [List.getElem?_append_right (Nat.le_refl _), Nat.sub_self]
      rfl
    · have q := args_of (pre := pre ++ [some v]) t (fun d hd => hf d (List.mem_cons_of_mem _ hd)) (Nat.succ.inj hl)
      rw [List.length_append, List.append_assoc] at q
      exact q
/-- what is wished of C(vs ..), C an own error with the fields flds -/
theorem mk_err {K : PySem.W.Frag} {C : Addr} {nm : Str} {n m : Nat} {flds : List Str} {H1 : Hp} {vs : List V} {ds : List PyData} {Q : XK} (hm : flds.length + 1 = m) (hl : flds.length = vs.length) (h100 : flds.length ≤ 100) (hv : DpAll K H1 vs ds) (hf : ∀ d ∈ ds, fit n d = true)
    (q : ∀ (dd : Addr) (H' : Hp), Same H1 H' → ErrD K H' dd (("code", .str nm) :: after (slots 1 flds) ds []) → Q (.ref C) (some dd) H') :
    vs.length ≤ 1000 ∧ ∀ a, H1 a = none → spErr K C nm n m (slots 1 flds) (.ref a :: (vs ++ [])) (upd H1 a (exo a C none))
      (fun v H2 => v = .non ∧ ∃ (d : Addr) (fs : List (Str × V)), H2 a = some (exo a C (some d)) ∧ H2 d = some (exd d fs) ∧ H1 d = none ∧ Q (.ref C) (some d) (upd (del H2 a) d (.xd fs))) (fun _ _ _ => False) := by
  refine ⟨by omega, fun a ha => ?_⟩
  rw [List.append_nil]
  have sm1 : Same (nox H1) (nox (upd H1 a (exo a C none))) := fun b o e => by
    obtain ⟨e1, e2⟩ := of_nox e
    exact nox_of (by rw [upd_ne (ne_of_none e1 ha)]; exact e1) e2
  refine ⟨a, vs, ds, rfl, by show vs.length + 1 = m; omega, upd_same, args_of (pre := [some (.ref a)]) (DpAll.same sm1 _ _ (DpAll.nox _ _ hv)) hf hl, by rw [slots_len]; exact h100, fun G' st => ⟨rfl, ?_⟩⟩
  obtain ⟨⟨fs, hF, ⟨z, _⟩ | ⟨dx, h1, h2, h3, h4⟩⟩, but, _⟩ := st
  · cases z
  · have hd1 : H1 dx = none := by
      rw [upd_ne h2] at h1
      exact h1
    refine ⟨dx, fs, h3, h4, hd1, q dx _ (fun b o e => ?_) ⟨fs, upd_same, hF.same fun b o e => ?_⟩⟩
    · have na := ne_of_none e ha
      rw [upd_ne (ne_of_none e hd1), del_ne na]
      exact but b o na (by rw [upd_ne na]; exact e)
    · obtain ⟨e1, e2⟩ := of_nox e
      have z := newer_sub b o e1
      have nd : b ≠ dx := fun y => by
        rw [y, h4] at z
        exact e2 _ (Option.some.inj z).symm
      have na : b ≠ a := fun y => by
        rw [y, newer_none upd_same] at e1
        cases e1
      rw [upd_ne nd, del_ne na]
      exact z
/-- an own error's class C, called by its name: its __init__ keeps its promise -/
structure ErrC (P : Program) (w : World) (K : PySem.W.Frag) (mg : Str → Option Value) (base : Heap) (nm : Str) (flds : List Str) (C : Addr) (k n : Nat) : Prop where
  ini : IniC K C nm
  glob : mg nm = some (.ref C)
  few : flds.length ≤ 100
  run : ∃ (f : Addr) (fd : FuncData) (ps : List Str), PySem.W.findIn K (.ref C) "__init__" = some (some (.ref f)) ∧ PySem.W.typeIn K (.ref f) = some (.type "function") ∧ L2.Binds K fd ps [] ∧ FnOk P w K mg base CX0 k f fd ps (spErr K C nm n (flds.length + 1) (slots 1 flds))
/-- raise C(e ..); its reading is closed by mk_err -/
def tErr (K : PySem.W.Frag) (C : Addr) (nm : Str) (flds : List Str) (n : Nat) (W : WX) (ta : TA) : TS := fun _ σ H => tMkO C (spErr K C nm n (flds.length + 1) (slots 1 flds)) [] ta σ H fun cls d H' => W cls d σ H'
section
variable {X : Cx} {nm : Str} {flds : List Str} {C : Addr} {k n : Nat} {W : WX} {e : Expr} {es : List Expr} {ta : TA} {p pos pos2 : Pos}
theorem ps_err (T : ErrC X.prog X.w X.K X.mg X.base nm flds C k n) (hc : X.calm = true) (tk : Takes X W) (hr : Room (k + 1) X.A) (hg : Gl X nm) (ha : PA X (e :: es) ta) (n1 : (nm == ("__debug__" : Str)) = false := by decide)
    (n2 : starEach (e :: es) X.env = (false, eval e X.env) :: starEach es X.env := by rfl) (n3 : (backTo pos (starEach es X.env)).any (·.1) = false := by rfl) :
    PS X (.Raise (some (.Call (.Name nm p) (e :: es) [] pos)) none pos2) (tErr X.K C nm flds n W ta) := by
  obtain ⟨f, fd, ps, h1, h2, h3, h4⟩ := T.run
  exact ps_raise hc tk (pmk_oex T.ini.oex h1 h2 h4 hr h3 .nil pass0 hg T.glob ha n1 n2 n3)
end
end VG

set_option maxRecDepth 100000
/-! A def whose code object is known (lambdas are made in it); what a lambda's body may let out. -/
namespace VG
open PySem PySem.Spec PyProof.Rows L2 LamX
section
variable {P : Program} {w : World} {K : PySem.W.Frag} {mg : Str → Option Value} {base : Heap}
theorem okGC {x qual : Str} {st : Stmt} {f c : Addr} {fd : FuncData} {N ps : List Str} {k : Nat} {sp : Sp} (F : Fun K x qual st f fd) (S : FnScope N ps (defScope st)) (hc : fd.code = .ref c) (many : ∀ vs H Q E, sp vs H Q E → vs.length = ps.length)
    (body : ∀ (A : Around) (outer : List Env) (s : Shared) (H : Hp) (vs : List V) (Q : VK) (E : XK), A.guards = some [] → Room k (A.deeper (envOfC qual (defScope st) s.heap.objs.size f (.ref c))) → sp vs H Q E →
      ∃ t, PSs (cxOf CX0 P w K mg base N qual (defScope st) f (.ref c) A outer s H E).nox (defBody st) t ∧
        t { nx := fun _ H' => Q .non H', rt := Q } (L2.start N vs) H) : FnG P w K mg base CX0 (k + 1) f fd ps sp := by
  obtain ⟨oc, od, kV, doc, pm, an, cdv, ct, osl, rfl, lk, hcd⟩ := F.ex
  obtain rfl : cdv = .ref c := hc
  refine ⟨many, fun A outer s H args us vs Q E hG hr e0 hb r q => LamX.run_ofS lk hcd S hr e0 hb r (many _ _ _ _ q) fun hr' => ?_⟩
  obtain ⟨t, h1, h2⟩ := body A outer s H vs Q E hG hr' q
  exact ⟨t, h1.nox, h2⟩
end
theorem lam_passes {X : Cx} {A : Around} {outer : List Env} {s : Shared} {H : Hp} {E : XK} {scope : Scope} {f c' : Addr} : Passes (L2.CX X.prog X.w) (lamCx X A outer s H E scope f c') E := passes_call (W := fun cls d _ H => E cls d H) (takes_of rfl rfl rfl rfl) fun _ _ _ _ h => h
/-- a call that lets nothing out, of a def that may -/
theorem passF {X : Cx} {P : Program} {w : World} : Passes (L2.CX P w) X (fun _ _ _ => False) := fun _ _ _ _ _ _ _ ⟨_, _, _, _, _, _, _, _, _, _, _, _, h⟩ => h.elim
/-- sequences alone -/
def seqs (H : Hp) : Hp := fun b => match H b with
  | some (.lst xs) => some (.lst xs)
  | some (.tup xs) => some (.tup xs)
  | some (.frz o (.lst xs)) => some (.frz o (.lst xs))
  | some (.frz o (.tup xs)) => some (.frz o (.tup xs))
  | _ => none
theorem seqs_sub {H : Hp} {b : Addr} {o : HO} (h : seqs H b = some o) : H b = some o ∧ ∀ ps, o ≠ .tbl ps := by
  unfold seqs at h
  split at h <;> first | (rename_i e; cases h; exact ⟨e, fun _ z => by cases z⟩) | cases h
mutual
theorem Dp.seqs {K : PySem.W.Frag} {H : Hp} : ∀ (d : PyData) (v : V), Dp K H v d → Dp K (VG.seqs H) v d
  | .none, _, h => by cases h; exact .non
  | .bool b, _, h => by cases h; exact .bl b
  | .int i, _, h => by cases h; exact .int i
  | .str x, _, h => by cases h; exact .str x
  | .list ds, _, h => by
    cases h with
    | lst hs hd =>
      refine .lst ?_ (DpAll.seqs ds _ hd)
      rcases hs with (e | ⟨o, e⟩) | e
      · exact .inl (.inl (by unfold VG.seqs; rw [e]))
      · exact .inl (.inr ⟨o, by unfold VG.seqs; rw [e]⟩)
      · exact .inr e
  | .tuple ds, _, h => by
    cases h with
    | tup hs hd =>
      refine .tup ?_ (DpAll.seqs ds _ hd)
      rcases hs with (e | ⟨o, e⟩) | e
      · exact .inl (.inl (by unfold VG.seqs; rw [e]))
      · exact .inl (.inr ⟨o, by unfold VG.seqs; rw [e]⟩)
      · exact .inr e
  | .dict _, _, h => by cases h
theorem DpAll.seqs {K : PySem.W.Frag} {H : Hp} : ∀ (ds : List PyData) (vs : List V), DpAll K H vs ds → DpAll K (VG.seqs H) vs ds
  | [], _, h => by cases h; exact .nil
  | d :: ds, _, h => by
    cases h with
    | cons h t => exact .cons (Dp.seqs d _ h) (DpAll.seqs ds _ t)
end
/-- data stand where tables alone have grown -/
theorem Dp.grown {K : PySem.W.Frag} {H H' : Hp} {d : PyData} {v : V} (e : ExtN H H') (h : Dp K H v d) : Dp K H' v d := Dp.same (fun b o z => e b o (seqs_sub z).1 (seqs_sub z).2) d v (Dp.seqs d v h)
end VG

set_option maxRecDepth 100000
/-! A hook that knows cStatics, and tells the __init__ of errors (whose closure holds their class). -/
namespace VG
open PySem PySem.Spec PyProof.Rows L2
open He (ba Fa DefD Tab Defn AlX)
def asI (g : Addr → Option Obj) (n : Nat) : List Addr := He.asD g n ++ [cStatics]
abbrev FnI : Type := Option (Str × Str × Arguments × FuncBody × Scope × Addr × List Str × Addr)
def fnI (K : PySem.W.Frag) (p : Str × Option Str) : FnI := match K.lookup (He.fAd K p) with
  | some ⟨_, _, .func fd, _⟩ => some (fd.name, fd.qualname, fd.params, fd.body, fd.scope, fd.globals, fd.closure.map (·.1), fd.builtins)
  | _ => none
/-- an error's __init__, as it is written -/
structure IniD where
  cls : Str
  st : Stmt
def IniD.at_ (d : IniD) : Str × Option Str := (d.cls, some "__init__")
def IniD.qual (d : IniD) : Str := d.cls ++ ".__init__"
def IniD.val (d : IniD) : FnI := some ("__init__", d.qual, defArgs d.st, .stmts (defBody d.st), defScope d.st, mainGlobals, ["__class__"], builtinsNs)
abbrev AlI : Type := AlX × List FnI
section
variable {n : Nat} {fa : List Fa} {fn : List DefD} {tf : List Defn} {ex : PySem.W.Frag → Bool} {ins : List IniD}
def obsI (n : Nat) (fa : List Fa) (fn : List DefD) (tf : List Defn) (ex : PySem.W.Frag → Bool) (ins : List IniD) (g : Addr → Option Obj) : AlI :=
  ((He.obsT fa fn [] (He.frT g (asI g n)), ex (He.frT g (asI g n)) && He.tabsB g tf (He.frT g (asI g n))), ins.map fun d => fnI (He.frT g (asI g n)) d.at_)
structure SaysI (fa : List Fa) (fn : List DefD) (tf : List Defn) (ex : PySem.W.Frag → Bool) (ins : List IniD) (w : World) (h : Heap) (K : PySem.W.Frag) : Prop where
  x : He.SaysX fa fn [] tf ex w h K
  ini : ∀ d ∈ ins, fnI K d.at_ = d.val
theorem saysI_of {w : World} {h : Heap} (e : obsI n fa fn tf ex ins h.get? = (He.valX fn [] w, ins.map IniD.val)) : SaysI fa fn tf ex ins w h (He.frT h.get? (asI h.get? n)) := by
  generalize hK : He.frT h.get? (asI h.get? n) = K at *
  have e1 : He.obsT fa fn [] K = He.valT fn [] w := by
    have z := congrArg (fun z : AlI => z.1.1) e
    unfold obsI at z
    rw [hK] at z
    exact z
  have e2 : (ex K && He.tabsB h.get? tf K) = true := by
    have z := congrArg (fun z : AlI => z.1.2) e
    unfold obsI at z
    rw [hK] at z
    exact z
  have e3 : (ins.map fun d => fnI K d.at_) = ins.map IniD.val := by
    have z := congrArg (fun z : AlI => z.2) e
    unfold obsI at z
    rw [hK] at z
    exact z
  obtain ⟨h1, h2⟩ := ba e2
  have tabs : ∀ p ∈ tf, PySem.W.codeHdIn K (He.cT K p).1 (He.cT K p).2 = true ∧ ∃ o, h.get? (He.cT K p).2 = some o ∧ He.emptyTab o = true := fun p hp => by
    obtain ⟨h3, h4⟩ := ba (List.all_eq_true.mp h2 p hp)
    match q : h.get? (He.cT K p).2 with
    | none =>
      rw [q] at h4
      cases h4
    | some o =>
      rw [q] at h4
      exact ⟨h3, o, rfl, h4⟩
  refine ⟨⟨e1, h1, fun p hp => (tabs p hp).1, fun p hp => ?_, fun p hp => ?_⟩, fun d hd => ?_⟩
  · obtain ⟨_, o, q, z⟩ := tabs p hp
    rw [← hK] at q ⊢
    exact He.frT_none q z
  · obtain ⟨_, o, q, z⟩ := tabs p hp
    rw [q, He.emptyTab_eq z]
  · exact List.map_inj_left.mp e3 d hd
def hookI (n : Nat) (fa : List Fa) (fn : List DefD) (tf : List Defn) (ex : PySem.W.Frag → Bool) (ins : List IniD) : PySem.W.Hook where
  α := AlI
  obs := fun s => obsI n fa fn tf ex ins s.heap.get?
  val := fun w => (He.valX fn [] w, ins.map IniD.val)
  says := fun w h => ∃ K : PySem.W.Frag, K.In h ∧ SaysI fa fn tf ex ins w h K
  of := fun _ _ e => ⟨_, He.frT_in, saysI_of e⟩
  keeps := fun _ _ _ ⟨K, hK, c⟩ k => ⟨K, PySem.W.Frag.In.keeps hK k, ⟨c.x.t, c.x.more, c.x.hd, c.x.out, fun p hp => k _ _ (c.x.empty p hp)⟩, c.ini⟩
theorem obsI_eq {g : Addr → Option Obj} {s : Shared} (h : ∀ a, g a = s.heap.get? a) : obsI n fa fn tf ex ins g = (hookI n fa fn tf ex ins).obs s := by
  have e : g = s.heap.get? := funext h
  rw [e] <;> rfl
end
end VG

set_option maxRecDepth 100000
/-! What the head is to tell of an own error, as a Bool. -/
namespace VG
open PySem PySem.Spec PyProof.Rows L2
def clsB (K : PySem.W.Frag) (C : Addr) (nm : Str) : Bool := match K.lookup C with
  | some ⟨.type t, _, .cls cd, sl⟩ => decide (t = "type") && (match cd.mro, sl.toList with
    | .ref C' :: bm, [_, _, some (.str z _), _, some (.builtin n), _] => decide (C' = C) && (decide (z = nm) && (decide (n = "ValueError.__new__") && (cd.hasDict && (!cd.hasDel && PySem.HandSPX.refsVE bm))))
    | _, _ => false)
  | _ => false
theorem clsB_ok {K : PySem.W.Frag} {C : Addr} {nm : Str} (h : clsB K C nm = true) : ∃ (name q : Str) (N : Addr) (bs bm : List Value) (sn : List Str) (sub : List Value) (ab : Bool) (col : Option Bool) (dd : Option Addr) (k0 k1 : Option Value) (tk : Tok) (k3 k5 : Option Value),
    K.lookup C = some (excClassObj name q C N bs bm true sn sub ab col dd k0 k1 (some (.str nm tk)) k3 k5 "ValueError.__new__") ∧ PySem.HandSPX.refsVE bm = true := by
  unfold clsB at h
  split at h
  · rename_i t dd cd sl e
    obtain ⟨h1, h2⟩ := Bool.and_eq_true_iff.mp h
    have ht : t = "type" := of_decide_eq_true h1
    split at h2
    · rename_i C' bm a0 a1 z tk a3 n a5 e1 e2
      simp only [Bool.and_eq_true, decide_eq_true_eq, Bool.not_eq_true'] at h2
      obtain ⟨g1, g2, g3, g4, g5, g6⟩ := h2
      subst ht g1 g2 g3
      obtain ⟨c1, c2, c3, c4, c5, c6, c7, c8, c9, c10, c11⟩ := cd
      have e1 : c3 = .ref C' :: bm := e1
      have g4 : c6 = true := g4
      have g5 : c11 = false := g5
      subst e1 g4 g5
      have es : sl = #[a0, a1, some (.str z tk), a3, some (.builtin "ValueError.__new__"), a5] := Array.toList_inj.mp e2
      subst es
      exact ⟨c1, c5, c4, c2, bm, c7, c8, c9, c10, dd, a0, a1, tk, a3, a5, e, g6⟩
    · cases h2
  · cases h
def nameB (K : PySem.W.Frag) (C : Addr) : Bool := match PySem.W.findCls K (.ref C) (.type "type") "__name__" with
  | some (.get g a o t) => decide (g = .builtin "getset_descriptor.__get__") && (decide (a = .builtin "type.__name__") && (decide (o = .ref C) && decide (t = .type "type")))
  | _ => false
theorem nameB_ok {K : PySem.W.Frag} {C : Addr} (h : nameB K C = true) : PySem.W.findCls K (.ref C) (.type "type") "__name__" = some (.get (.builtin "getset_descriptor.__get__") (.builtin "type.__name__") (.ref C) (.type "type")) := by
  unfold nameB at h
  split at h
  · rename_i g a o t e
    simp only [Bool.and_eq_true, decide_eq_true_eq] at h
    obtain ⟨h1, h2, h3, h4⟩ := h
    rw [e, h1, h2, h3, h4]
  · cases h
/-- an own error's class: all but its __init__ -/
def errB (K : PySem.W.Frag) (nm : Str) : Bool := clsB K (He.ga K nm) nm && (nameB K (He.ga K nm) && (ownXB K (He.ga K nm) && (decide (PySem.W.findIn K (.ref (He.ga K nm)) "__setattr__" = some (some (.builtin "object.__setattr__"))) && (decide (PySem.W.subIn K (.ref (He.ga K nm)) (.type "BaseException") = some true) &&
  (decide (PySem.W.typeIn K (.ref (He.ga K nm)) = some (.type "type")) && (PySem.W.keepIn K (.ref (He.ga K nm)) && (decide (PySem.W.findIn K (.ref (He.ga K nm)) "__class__" = some (some (.builtin "object.__class__"))) && (decide (PySem.W.specialIn K (.builtin "object.__class__") "__get__" = some (some (.builtin "getset_descriptor.__get__"))) &&
  (decide (PySem.W.takesIn K (.builtin "object.__class__") = some true) && (decide (PySem.W.mroIn K (He.ga K nm) (.type "object") = some true) && PySem.W.readsIn K (He.ga K nm) (.type "type")))))))))))
theorem errB_ok {K : PySem.W.Frag} {nm : Str} (h : errB K nm = true) : IniC K (He.ga K nm) nm := by
  unfold errB at h
  simp only [Bool.and_eq_true, decide_eq_true_eq] at h
  obtain ⟨h1, h2, h3, h4, h5, h6, h7, h8, h9, h10, h11, h12⟩ := h
  obtain ⟨name, q, N, bs, bm, sn, sub, ab, col, dd, k0, k1, tk, k3, k5, e, g⟩ := clsB_ok h1
  have o := ownX_of h3
  refine ⟨⟨⟨name, q, N, bs, bm, sn, sub, ab, col, dd, k0, k1, _, k3, k5, e, g⟩, h4, h5, h6, h7⟩, ⟨o.xf.ga, o.xf.gg, h5, ?_, h8, h9, h10, h11, h12, nameB_ok h2, h6, ⟨_, _, _, _, tk, e, rfl⟩⟩, o⟩
  unfold PySem.W.clsIn
  rw [e] <;> rfl
/-- its __init__ -/
def iniB (K : PySem.W.Frag) (nm file : Str) : Bool := decide (PySem.W.findIn K (.ref (He.ga K nm)) "__init__" = some (some (.ref (He.ma K (He.ga K nm) "__init__")))) && (decide (PySem.W.typeIn K (.ref (He.ma K (He.ga K nm) "__init__")) = some (.type "function")) &&
  (decide (PySem.W.ks_superIn K (He.ga K nm) (He.ga K nm) "__init__" = some (some (.builtin "ValueError.__init__"))) && (decide (PySem.W.subIn K (.ref (He.ga K nm)) (.type "ValueError") = some true) && (decide (PySem.W.mroIn K (He.ga K nm) (.ref (He.ga K nm)) = some true) &&
  (decide (PySem.W.nsIn K cStatics "thirdparty.any" = some none) && (match K.lookup (He.ma K (He.ga K nm) "__init__") with
    | some ⟨_, _, .func fd, _⟩ => (match fd.code, fd.closure with
      | .ref cda, [(_, cc)] => decide (fd.defaults = .none) && (PySem.W.codeIn K (.ref cda) (nm ++ ".__init__") && ((match K.lookup cda with
          | some ⟨_, _, .fields vs, _⟩ => (match (vs[2]? : Option Value) with
            | some (.str z _) => decide (z = file)
            | _ => false)
          | _ => false) && (match K.lookup cc with
          | some ⟨_, _, .cell (some (.ref C')), _⟩ => decide (C' = He.ga K nm)
          | _ => false)))
      | _, _ => false)
    | _ => false))))))
structure IniOk (K : PySem.W.Frag) (nm file : Str) : Prop where
  find : PySem.W.findIn K (.ref (He.ga K nm)) "__init__" = some (some (.ref (He.ma K (He.ga K nm) "__init__")))
  typ : PySem.W.typeIn K (.ref (He.ma K (He.ga K nm) "__init__")) = some (.type "function")
  up : PySem.W.ks_superIn K (He.ga K nm) (He.ga K nm) "__init__" = some (some (.builtin "ValueError.__init__"))
  isB : PySem.W.subIn K (.ref (He.ga K nm)) (.type "ValueError") = some true
  self : PySem.W.mroIn K (He.ga K nm) (.ref (He.ga K nm)) = some true
  opq : PySem.W.nsIn K cStatics "thirdparty.any" = some none
  fn : ∃ (oc : Value) (od : Option Addr) (fd : FuncData) (osl : Array (Option Value)) (cda cc : Addr) (x : Str), K.lookup (He.ma K (He.ga K nm) "__init__") = some ⟨oc, od, .func fd, osl⟩ ∧ fd.code = .ref cda ∧ fd.closure = [(x, cc)] ∧ fd.defaults = .none ∧
    PySem.W.codeIn K (.ref cda) (nm ++ ".__init__") = true ∧ (∃ ccl cdd vs ccs tf, K.lookup cda = some ⟨ccl, cdd, .fields vs, ccs⟩ ∧ vs[2]? = some (.str file tf)) ∧ ∃ cl cld csl, K.lookup cc = some ⟨cl, cld, .cell (some (.ref (He.ga K nm))), csl⟩
theorem iniB_ok {K : PySem.W.Frag} {nm file : Str} (h : iniB K nm file = true) : IniOk K nm file := by
  unfold iniB at h
  simp only [Bool.and_eq_true, decide_eq_true_eq] at h
  obtain ⟨h1, h2, h3, h4, h5, h6, h7⟩ := h
  refine ⟨h1, h2, h3, h4, h5, h6, ?_⟩
  split at h7
  · rename_i oc od fd osl e
    split at h7
    · rename_i cda x cc e1 e2
      simp only [Bool.and_eq_true, decide_eq_true_eq] at h7
      obtain ⟨g1, g2, g3, g4⟩ := h7
      refine ⟨oc, od, fd, osl, cda, cc, x, e, e1, e2, g1, g2, ?_, ?_⟩
      · split at g3
        · rename_i ccl cdd vs ccs ec
          split at g3
          · rename_i z tf ez
            rw [of_decide_eq_true g3] at ez
            exact ⟨ccl, cdd, vs, ccs, tf, ec, ez⟩
          · cases g3
        · cases g3
      · split at g4
        · rename_i cl cld C' csl ec
          rw [of_decide_eq_true g4] at ec
          exact ⟨cl, cld, csl, ec⟩
        · cases g4
    · cases h7
  · cases h7
end VG

set_option maxRecDepth 100000
/-! From the head's facts of an own error to its promise. -/
namespace VG
open PySem PySem.Spec PyProof.Rows L2
section
variable {P : Program} {w : World} {K : PySem.W.Frag} {mg : Str → Option Value} {base : Heap}
theorem errC_of {nm : Str} {flds ps : List Str} {st : Stmt} {rest : List Stmt} {p0 p1 p2 p3 p4 p5 : Pos} {j k n : Nat} {z : Str} {self : Arg} {fC : Addr} {fdC : FuncData} (ini : fnI K (IniD.at_ ⟨nm, st⟩) = IniD.val ⟨nm, st⟩) (I : IniOk K nm P.main.file) (E : IniC K (He.ga K nm) nm) (glob : mg nm = some (.ref (He.ga K nm)))
    (hev : SupEv p0 p1 p2 p3 p4 j z) (hb : defBody st = superInit p0 p1 p2 p3 p4 p5 j z :: rest) (S : IniScope ps (defScope st)) (hself : ((defArgs st).posonlyargs ++ (defArgs st).args).head? = some self) (hp0 : ps[0]? = some self.arg)
    (GC : FnOk P w K mg base CX0 k fC fdC ["value"] (spCopy K n)) (hg : (defScope st).names.lookup ("copied" : Str) = some .globalImplicit) (mC : mg "copied" = some (.ref fC)) (hk : PySem.W.keepIn K (.ref fC) = true) (bC : L2.Binds K fdC ["value"] [])
    (hps : ∀ x ∈ ps, (x == ("__debug__" : Str)) = false ∧ (x == ("__classdict__" : Str)) = false) (hf : ∀ f ∈ flds, f ∈ exFields) (few : flds.length ≤ 100) (hl : ps.length = flds.length + 1) (hs : IniSts ps (slots 1 flds) rest) (sup : mg "super" = none) (top : (P.main.scope.names.lookup ("super" : Str)).isSome = false)
    (binds : ∀ (q : Str) (kV doc pm cdv ct : Value) (an : Option Addr) (cc : Addr) (us : List Value), us.length = ps.length → bindArgs (PySem.W.ksFn "__init__" q (defArgs st) (defBody st) (defScope st) .none kV doc pm an cdv ct cc) ⟨us, []⟩ = pure (ps.zip us)) :
    ErrC P w K mg base nm flds (He.ga K nm) (k + 1) n := by
  obtain ⟨oc, od, fd, osl, cda, cc, x, e, e1, e2, e3, g2, g3, g4⟩ := I.fn
  have e0 : K.lookup (He.fAd K (IniD.at_ ⟨nm, st⟩)) = some ⟨oc, od, .func fd, osl⟩ := e
  unfold fnI at ini
  rw [e0] at ini
  obtain ⟨f1, f2, f3, f4, f5, f6, f7, f8, f9, f10, f11, f12, f13, f14, f15⟩ := fd
  have ini : (some (f1, f2, f3, f4, f5, f6, f7.map (·.1), f15) : FnI) = (some (("__init__" : Str), IniD.qual ⟨nm, st⟩, defArgs st, FuncBody.stmts (defBody st), defScope st, mainGlobals, [("__class__" : Str)], builtinsNs) : FnI) := ini
  simp only [Option.some.injEq, Prod.mk.injEq] at ini
  obtain ⟨rfl, rfl, rfl, rfl, rfl, rfl, ec, rfl⟩ := ini
  have e1 : f13 = .ref cda := e1
  have e2 : f7 = [(x, cc)] := e2
  have e3 : f8 = .none := e3
  subst e1 e2 e3
  have ex : x = "__class__" := by
    have z := List.cons.inj ec
    exact z.1
  subst ex
  obtain ⟨name, q, N, bs, bm, sn, sub, ab, col, dd, k0, k1, k2, k3, k5, lC, hbm⟩ := E.oex.cls
  have T : IniTxt P K mg "ValueError" "ValueError.__init__" "ValueError.__new__" PySem.HandSPX.veTail (He.ga K nm) (He.ma K (He.ga K nm) "__init__") cc cda (IniD.qual ⟨nm, st⟩) (defArgs st) (superInit p0 p1 p2 p3 p4 p5 j z :: rest) (defScope st)
      (PySem.W.ksFn "__init__" (IniD.qual ⟨nm, st⟩) (defArgs st) (defBody st) (defScope st) .none f9 f10 f11 f12 (.ref cda) f14 cc) := by
    refine ⟨PySem.W.kxs_ValueError, F.excBase_ValueError, ⟨oc, od, .none, f9, f10, f11, f12, f14, osl, by rw [hb], e⟩, g2, g3, g4, ⟨name, q, N, bs, bm, true, sn, sub, ab, col, dd, k0, k1, k2, k3, k5, lC⟩, I.up, I.isB, I.self, I.opq, sup, top⟩
  have ok := ok_ini (n := n) (nm := nm) (l := slots 1 flds) hev T S hself hp0 E GC hg mC hk bC hps (fun p hp => ?_) hs
  · rw [hl] at ok
    exact ⟨E, glob, few, _, _, ps, I.find, I.typ, .all (fun us hus => binds _ _ _ _ _ _ _ _ us hus), ok⟩
  · have key : ∀ (l : List Str) (i : Nat), (∀ f ∈ l, f ∈ exFields) → ∀ p ∈ slots i l, p.1 ∈ exFields := by
      intro l
      induction l with
      | nil => intro i _ p hp; cases hp
      | cons f l ih =>
        intro i h p hp
        rcases List.mem_cons.mp hp with e | hp
        · rw [e]
          exact h f List.mem_cons_self
        · exact ih (i + 1) (fun g hg => h g (List.mem_cons_of_mem _ hg)) p hp
    exact key flds 1 hf p hp
end
end VG

set_option maxRecDepth 100000
/-! Plain calls of defs with a star parameter. -/
namespace VG
open PySem PySem.Spec PyProof.Rows L2
section
variable {X : Cx} {CX : CXT} {k : Nat} {f : Addr} {sp : Sp} {E : XK} {x : Str} {p pos : Pos} {e : Expr} {es : List Expr} {t : TA}
theorem pe_callR (F : FnR X.prog X.w X.K X.mg X.base CX k f sp) (hr : Room k X.A) (hk : PySem.W.keepIn X.K (.ref f) = true) (hg : Gl X x) (hm : X.mg x = some (.ref f)) (hx : Passes CX X E) (ha : PA X (e :: es) t) (n1 : (x == ("__debug__" : Str)) = false := by decide)
    (n2 : starEach (e :: es) X.env = (false, eval e X.env) :: starEach es X.env := by rfl) (n3 : (backTo pos (starEach es X.env)).any (·.1) = false := by rfl) : PE X (.Call (.Name x p) (e :: es) [] pos) (fun σ H Q => t σ H fun vs H1 => sp vs H1 Q E) :=
  ⟨fun pins s σ H Q I q0 => wpAny_Call_Name_kw (ld_glob I hg hm (PySem.W.callWith_K (h₀ := X.base) I.ok.mod.kin hk (thn (ha.run pos pins s σ H _ I q0) fun us s1 ⟨vs, H1, I1, r, q⟩ => ⟨I1.kIn, wpAny_call (codeAny_mono (run_fnR F hr hx I1 r q) fun res s' z => z)⟩) n2 n3) n1)⟩
theorem pe_callR0 (F : FnR X.prog X.w X.K X.mg X.base CX k f sp) (hr : Room k X.A) (hk : PySem.W.keepIn X.K (.ref f) = true) (hg : Gl X x) (hm : X.mg x = some (.ref f)) (hx : Passes CX X E) (n1 : (x == ("__debug__" : Str)) = false := by decide) :
    PE X (.Call (.Name x p) [] [] pos) (fun σ H Q => sp [] H Q E) :=
  ⟨fun pins s σ H Q I q0 => wpAny_Call_Name_kw (ld_glob I hg hm (PySem.W.callWith_K0 I.kIn hk (wpAny_call (codeAny_mono (run_fnR (us := []) F hr hx I .nil q0) fun res s' z => z))) n1)⟩
end
end VG

set_option maxRecDepth 100000
/-! Instances of own classes: ==, != by an own __eq__, repr, len, truth by own methods. -/
namespace VG
open PySem PySem.Spec PyProof.Rows L2
theorem FnOk.toR {P : Program} {w : World} {K : PySem.W.Frag} {mg : Str → Option Value} {base : Heap} {CX : CXT} {k : Nat} {f : Addr} {fd : FuncData} {ps : List Str} {sp : Sp} (F : L2.FnOk P w K mg base CX k f fd ps sp) (hb : L2.Binds K fd ps []) : FnR P w K mg base CX k f sp := by
  intro A outer s H us vs Q E hr e0 r h
  have hl := F.len _ _ _ _ h
  have hk : K.In s.heap := e0.mod.kin.keeps fun b o e => (e0.bs b o e).1
  refine F.run A outer s H ⟨us, []⟩ us vs Q E hr e0 ?_ r h
  have z := hb s us hk (by rw [List.append_nil, ← r.length, hl])
  rw [List.append_nil] at z
  exact z
/-- data stand where an object that is no sequence changes -/
theorem Dp.offI {K : PySem.W.Frag} {H : Hp} {p C dx : Addr} {fs : List (Str × V)} {o : HO} {d : PyData} {v : V} (hp : H p = some (.ins C dx fs)) (h : Dp K H v d) : Dp K (upd H p o) v d :=
  Dp.same (fun b u z => by
    have n : b ≠ p := fun e => by
      rw [e] at z
      have y := (seqs_sub z).1
      unfold VG.seqs at z
      rw [hp] at z
      cases z
    rw [upd_ne n]
    exact (seqs_sub z).1) d v (Dp.seqs d v h)
section
variable {X : Cx} {CX : CXT} {pins : List (Addr × Obj)} {σ : L2.St} {H : Hp} {s : Shared} {a C dx g : Addr} {fs : List (Str × V)} {n : Nat} {sp : Sp} {E : XK}
theorem ins_inst (I : Inv X pins σ H s) (e : H a = some (.ins C dx fs)) : ∃ od, PySem.W.InstAt s.heap a (PySem.W.instObj C dx) C (some od) := by
  obtain ⟨mA, J, _⟩ := ins_get I.hok e
  obtain ⟨od, J, _⟩ := J.look
  exact ⟨od, J⟩
/-- x == y, x an instance of C, whose __eq__ stands at g; y any value -/
def rEqO (K : PySem.W.Frag) (C : Addr) (sp : Sp) (E : XK) : R2 := fun x y H Q => ∃ a dx fs t, x = .ref a ∧ H a = some (.ins C dx fs) ∧ TyX K H y t ∧ PySem.W.notFirst K C t = true ∧ sp [x, y] H Q E
theorem op_eqO (hs : PySem.W.findIn X.K (.ref C) "__eq__" = some (some (.ref g))) (hf : PySem.W.isFn X.K (.ref g) = true) (F : FnR X.prog X.w X.K X.mg X.base CX n g sp) (hr : Room n X.A) (hx : Passes CX X E) : OpR X (compareOp .Eq) (rEqO X.K C sp E) := by
  intro pins s σ H x y v u Q I rx ry h
  obtain ⟨a, dx, fs, t, rfl, ha, ty, hn, q⟩ := h
  cases (show v = Value.ref a from rx)
  obtain ⟨od, J⟩ := ins_inst I ha
  obtain ⟨P, kx, kp, _⟩ := kit_of I ry ty
  obtain ⟨m, hF⟩ := I.fr
  show wpAny _ _ (richCompare .Eq (.ref a) u) _ _ _
  refine PySem.W.cmp_K (op := .Eq) hr.units0 hF I.ok.mod.kin J (kx.ty _ _ I.kIn kp) hn hs hf ?_
  refine wpAny_mono (wpAny_call (run_fnR (us := [.ref a, u]) (vs := [.ref a, y]) F hr hx I (.cons rfl (.cons ry .nil)) q)) (fun w s' z => ?_) fun _ _ x => x
  obtain ⟨z', H', I', rz, qz⟩ := z
  exact SlX.cmpback rz ⟨z', H', I', rz, qz⟩
/-- repr(x), x an instance of C, whose __repr__ stands at g -/
def rReprO (C : Addr) (sp : Sp) (E : XK) : List V → Hp → VK → Prop := fun xs H Q => ∃ a dx fs, xs = [.ref a] ∧ H a = some (.ins C dx fs) ∧ sp xs H (fun v H' => (∃ z, v = .str z) ∧ Q v H') E
theorem call_reprO (hs : PySem.W.findIn X.K (.ref C) "__repr__" = some (some (.ref g))) (hf : PySem.W.isFn X.K (.ref g) = true) (F : FnR X.prog X.w X.K X.mg X.base CX n g sp) (hr : Room (n + 1) X.A) (hx : Passes CX X E) : CallR X (.builtin "repr") (rReprO C sp E) := by
  intro pins s σ H xs us Q I r h
  obtain ⟨a, dx, fs, rfl, ha, q⟩ := h
  obtain ⟨u, rfl, ru⟩ := vals1 r
  cases (show u = Value.ref a from ru)
  obtain ⟨od, J⟩ := ins_inst I ha
  obtain ⟨m, hF⟩ := I.fr
  have hr1 : Room n X.A.in1 := Room.in1 hr
  refine PySem.W.repr_K hr1.units0 hF I.ok.mod.kin J hs hf (wpAny_mono (wpAny_call (SlX.run_at (us := [.ref a]) (ws := [.ref a]) F hr1 I.env0.in1 hx I (.cons rfl .nil) q)) (fun v s' z => ?_) fun _ _ x => x)
  obtain ⟨z', H', I', rz, ⟨y, rfl⟩, qz⟩ := z
  obtain ⟨t, e⟩ := (show ∃ t, v = Value.str y t from rz)
  cases e
  exact ⟨.str y, H', I', ⟨t, rfl⟩, qz⟩
/-- what != by an own __eq__ asks of the class -/
structure NeK (K : PySem.W.Frag) (C g : Addr) : Prop where
  ex : ∃ (of : Obj) (nm q : Str) (N : Addr) (bs : List Value) (hdct : Bool) (sn : List Str) (sub : List Value) (ab : Bool) (col : Option Bool) (dd : Option Addr) (k0 k1 k2 k3 k5 : Option Value) (newId : String) (oc : Value) (od : Option Addr) (es : Array DictEntry) (ep : Nat) (sl : Array (Option Value)),
    K.lookup C = some (excClassObj nm q C N bs [.type "object"] hdct sn sub ab col dd k0 k1 k2 k3 k5 newId) ∧ K.lookup N = some ⟨oc, od, .dict es ep, sl⟩ ∧ StrKeys es ∧ nsFind es "__eq__" = some (.ref g) ∧ nsFind es "__ne__" = none ∧ K.lookup g = some of ∧ of.cls = .type "function"
theorem NeK.own {K : PySem.W.Frag} {C g a dx : Addr} {h : Heap} (N : NeK K C g) (X : K.In h) (e : h.get? a = some (PySem.W.instObj C dx)) : h.OwnEqNoNe a C g "object" [.type "object"] := by
  obtain ⟨of, nm, q, Na, bs, hdct, sn, sub, ab, col, dd, k0, k1, k2, k3, k5, newId, oc, od, es, ep, sl, h1, h2, h3, h4, h5, h6, h7⟩ := N.ex
  exact ⟨_, of, nm, q, Na, bs, hdct, sn, sub, ab, col, dd, k0, k1, k2, k3, k5, newId, nsFind es, _, e, rfl, X _ _ h1, ⟨_, es, ep, X _ _ h2, rfl, h3, fun _ => rfl⟩, h4, X _ _ h6, h7, PySem.F.cmp_object.mro, PySem.F.cmp_object.eq.lookup, h5⟩
/-- x != y, both instances of C -/
def rNeO (C : Addr) (sp : Sp) (E : XK) : R2 := fun x y H Q => ∃ a dx fs b dy gs, x = .ref a ∧ y = .ref b ∧ H a = some (.ins C dx fs) ∧ H b = some (.ins C dy gs) ∧ sp [x, y] H (fun v H' => ∃ c, v = .bl c ∧ Q (.bl (!c)) H') E
theorem op_neO (N : NeK X.K C g) (F : FnR X.prog X.w X.K X.mg X.base CX n g sp) (hr : Room (n + 1) X.A) (hx : Passes CX X E) : OpR X (compareOp .NotEq) (rNeO C sp E) := by
  intro pins s σ H x y v u Q I rx ry h
  obtain ⟨a, dx, fs, b, dy, gs, rfl, rfl, ha, hb, q⟩ := h
  cases (show v = Value.ref a from rx)
  cases (show u = Value.ref b from ry)
  obtain ⟨mA, J, _⟩ := ins_get I.hok ha
  obtain ⟨mB, J', _⟩ := ins_get I.hok hb
  have hr1 : Room n X.A.in1 := Room.in1 hr
  have hu : X.A.units + 1 < cLine := hu_of hr
  have O := N.own I.kIn J.obj
  obtain ⟨hp, gg, d, tk, os⟩ := s
  refine compareOp_ne_ownEq PySem.F.cmp_object O J'.obj rfl hu (wpAny_mono (wpAny_call (SlX.run_at (us := [.ref a, .ref b]) (ws := [.ref a, .ref b]) F hr1 I.env0.in1 hx I (.cons rfl (.cons rfl .nil)) q)) (fun v s' z => ?_) fun _ _ x => x)
  obtain ⟨z', H', I', rz, ⟨c, rfl, qz⟩⟩ := z
  cases (show v = Value.bool c from rz)
  exact ⟨c, rfl, .bl (!c), H', I', rfl, qz⟩
end
end VG

set_option maxRecDepth 100000
/-! What the head is to tell of an own class with an __eq__, as a Bool. -/
namespace VG
open PySem PySem.Spec PyProof.Rows L2
def strKeysB (es : Array DictEntry) : Bool := es.toList.all fun e => match e.key with
  | .str _ _ => true
  | _ => false
theorem strKeysB_ok {es : Array DictEntry} (h : strKeysB es = true) : StrKeys es := fun e he => by
  have z := List.all_eq_true.mp h e (Array.mem_toList_iff.mpr he)
  split at z
  · rename_i n t q
    exact ⟨n, t, q⟩
  · cases z
def neB (K : PySem.W.Frag) (C g : Addr) : Bool := (match K.lookup C with
  | some ⟨.type t, _, .cls cd, sl⟩ => decide (t = "type") && (match cd.mro, sl.toList with
    | [.ref C', .type o], [_, _, _, _, some (.builtin _), _] => decide (C' = C) && (decide (o = "object") && (!cd.hasDel && (match K.lookup cd.ns with
      | some ⟨_, _, .dict es _, _⟩ => strKeysB es && (decide (nsFind es "__eq__" = some (.ref g)) && decide (nsFind es "__ne__" = none))
      | _ => false)))
    | _, _ => false)
  | _ => false) && (match K.lookup g with
  | some ⟨.type t, _, _, _⟩ => decide (t = "function")
  | _ => false)
theorem neB_ok {K : PySem.W.Frag} {C g : Addr} (h : neB K C g = true) : NeK K C g := by
  unfold neB at h
  obtain ⟨h, hg⟩ := Bool.and_eq_true_iff.mp h
  split at hg
  · rename_i tg og dg sg eg
    have htg : tg = "function" := of_decide_eq_true hg
    subst htg
    split at h
    · rename_i t dd cd sl e
      obtain ⟨h1, h2⟩ := Bool.and_eq_true_iff.mp h
      have ht : t = "type" := of_decide_eq_true h1
      split at h2
      · rename_i C' o a0 a1 a2 a3 n a5 e1 e2
        simp only [Bool.and_eq_true, decide_eq_true_eq, Bool.not_eq_true'] at h2
        obtain ⟨g1, g2, g3, g4⟩ := h2
        split at g4
        · rename_i oc od es ep sl2 e3
          simp only [Bool.and_eq_true, decide_eq_true_eq] at g4
          obtain ⟨q1, q2, q3⟩ := g4
          subst ht g1 g2
          obtain ⟨c1, c2, c3, c4, c5, c6, c7, c8, c9, c10, c11⟩ := cd
          have e1 : c3 = [.ref C', .type "object"] := e1
          have g3 : c11 = false := g3
          subst e1 g3
          have es' : sl = #[a0, a1, a2, a3, some (.builtin n), a5] := Array.toList_inj.mp e2
          subst es'
          exact ⟨_, c1, c5, c4, c2, c6, c7, c8, c9, c10, dd, a0, a1, a2, a3, a5, n, oc, od, es, ep, sl2, e, e3, strKeysB_ok q1, q2, q3, eg, rfl⟩
        · cases g4
      · cases h2
    · cases h
  · cases hg
/-- isinstance of its instances -/
def insB (K : PySem.W.Frag) (C : Addr) : Bool := decide (PySem.W.findIn K (.ref C) "__class__" = some (some (.builtin "object.__class__"))) && (decide (PySem.W.specialIn K (.builtin "object.__class__") "__get__" = some (some (.builtin "getset_descriptor.__get__"))) &&
  (decide (PySem.W.takesIn K (.builtin "object.__class__") = some true) && (decide (PySem.W.mroIn K C (.type "object") = some true) && decide (PySem.W.kitOne K (.ref C) (.ref C) = some true))))
theorem insB_ok {K : PySem.W.Frag} {C : Addr} (h : insB K C = true) : PySem.W.findIn K (.ref C) "__class__" = some (some (.builtin "object.__class__")) ∧ PySem.W.specialIn K (.builtin "object.__class__") "__get__" = some (some (.builtin "getset_descriptor.__get__")) ∧
    PySem.W.takesIn K (.builtin "object.__class__") = some true ∧ PySem.W.mroIn K C (.type "object") = some true ∧ PySem.W.kitOne K (.ref C) (.ref C) = some true := by
  unfold insB at h
  simp only [Bool.and_eq_true, decide_eq_true_eq] at h
  exact h
end VG

set_option maxRecDepth 100000
/-! Statements that are not reached; comprehensions within comprehensions; heaps without some objects; lists that grow; methods called with keywords. -/
namespace VG
open PySem PySem.Spec PyProof.Rows L2
theorem ps_false {X : Cx} {st : Stmt} : PS X st (fun _ _ _ => False) := ⟨fun _ _ _ _ _ _ h => h.elim⟩
theorem pss_false {X : Cx} {st : List Stmt} : PSs X st (fun _ _ _ => False) := ⟨fun _ _ _ _ _ _ h => h.elim⟩
/-! ### scopes of comprehensions within comprehensions -/
def retE (st : Stmt) : Expr := match (defBody st).getLast? with
  | some (.Return (some e) _) => e
  | _ => .List [] ⟨0, 0, 0, 0⟩
def lcScope (d : Scope) : Expr → Scope
  | .ListComp _ _ sc _ => sc
  | _ => d
def lcElt : Expr → Expr
  | .ListComp e _ _ _ => e
  | e => e
theorem blkOk_in {N : List Str} {sc sc' scope : Scope} {own : List (Str × Nat)} (e : sc' = sc) (h : blkC N sc scope own = true) : BlkOk N sc' scope own := by
  subst e
  exact blkOk_by h
/-! ### heaps without some objects -/
def wos (S : List Addr) (G : Hp) : Hp := fun b => if b ∈ S then none else G b
theorem wos_in {S : List Addr} {G : Hp} {b : Addr} (h : b ∈ S) : wos S G b = none := if_pos h
theorem wos_out {S : List Addr} {G : Hp} {b : Addr} (h : b ∉ S) : wos S G b = G b := if_neg h
theorem wos_mono {S S' : List Addr} {G G' : Hp} (s : ∀ b ∈ S', b ∈ S) (e : Same G G') : Same (wos S G) (wos S' G') := fun b o h => by
  by_cases z : b ∈ S
  · rw [wos_in z] at h
    cases h
  · rw [wos_out z] at h
    rw [wos_out fun y => z (s b y)]
    exact e b o h
theorem wos_sub {S : List Addr} {G : Hp} : Same (wos S G) G := fun b o h => by
  by_cases z : b ∈ S
  · rw [wos_in z] at h
    cases h
  · rw [wos_out z] at h
    exact h
theorem wos_less {S S' : List Addr} {G : Hp} (s : ∀ b ∈ S', b ∈ S) : Same (wos S G) (wos S' G) := wos_mono s (Same.refl G)
theorem wos_upd {S : List Addr} {G : Hp} {T : Addr} {o : HO} (h : T ∈ S) : wos S (upd G T o) = wos S G := by
  funext b
  by_cases z : b ∈ S
  · rw [wos_in z, wos_in z]
  · rw [wos_out z, wos_out z, upd_ne fun y => z (by rw [y]; exact h)]
/-- all that is not in S stays -/
abbrev Exs (S : List Addr) (H H' : Hp) : Prop := Same (wos S H) (wos S H')
theorem Exs.of {S : List Addr} {G G' : Hp} (e : Same G G') : Exs S G G' := wos_mono (fun _ h => h) e
theorem Exs.but {S : List Addr} {p : Addr} {G G' : Hp} (h : p ∈ S) (e : ∀ b, b ≠ p → G' b = G b) : Exs S G G' := fun b o z => by
  by_cases y : b ∈ S
  · rw [wos_in y] at z
    cases z
  · rw [wos_out y] at z ⊢
    exact (e b fun x => y (x ▸ h)).trans z
theorem Exs.upd {S : List Addr} {G : Hp} {T : Addr} {o : HO} (h : T ∈ S) : Exs S G (upd G T o) := by
  intro b u z
  rw [wos_upd h]
  exact z
theorem Exs.on {S : List Addr} {G G' : Hp} {b : Addr} {o : HO} (e : Exs S G G') (h : b ∉ S) (z : G b = some o) : G' b = some o := by
  have y := e b o (by rw [wos_out h]; exact z)
  rw [wos_out h] at y
  exact y
theorem Exs.mono {S S' : List Addr} {G G' : Hp} (s : ∀ b ∈ S, b ∈ S') (e : Exs S G G') : Exs S' G G' := fun b o z => by
  by_cases y : b ∈ S'
  · rw [wos_in y] at z
    cases z
  · rw [wos_out y] at z ⊢
    exact e.on (fun x => y (s b x)) z
/-- a list that grows at D: what is in it so far stands without D and S -/
structure Acc (K : PySem.W.Frag) (S : List Addr) (D : Addr) (H : Hp) (ds : List PyData) : Prop where
  ex : ∃ acc, H D = some (.lst acc) ∧ DpAll K (wos (D :: S) H) acc ds
theorem Acc.start {K : PySem.W.Frag} {S : List Addr} {D : Addr} {H : Hp} : Acc K S D (upd H D (.lst [])) [] := ⟨⟨[], upd_same, .nil⟩⟩
theorem Acc.on {K : PySem.W.Frag} {S : List Addr} {D : Addr} {H H2 : Hp} {ds : List PyData} (c : Acc K S D H ds) (e : Exs (D :: S) H H2) (hD : ∀ o, H D = some o → H2 D = some o) : Acc K S D H2 ds := by
  obtain ⟨acc, h1, h2⟩ := c.ex
  exact ⟨⟨acc, hD _ h1, DpAll.same e _ _ h2⟩⟩
theorem Acc.more {K : PySem.W.Frag} {S : List Addr} {D : Addr} {H : Hp} {ds : List PyData} {d : PyData} {y : V} (c : Acc K S D H ds) (hy : Dp K (wos (D :: S) H) y d) :
    ∃ acc, H D = some (.lst acc) ∧ acc.length = ds.length ∧ Acc K S D (upd H D (.lst (acc ++ [y]))) (ds ++ [d]) := by
  obtain ⟨acc, h1, h2⟩ := c.ex
  refine ⟨acc, h1, DpAll.len h2, ⟨⟨_, upd_same, ?_⟩⟩⟩
  rw [wos_upd List.mem_cons_self]
  exact VG.DpAll.snoc hy h2
theorem Acc.done {K : PySem.W.Frag} {S : List Addr} {D : Addr} {H : Hp} {ds : List PyData} (c : Acc K S D H ds) (h : D ∉ S) : Dp K (wos S H) (.ref D) (.list ds) := by
  obtain ⟨acc, h1, h2⟩ := c.ex
  exact .lst (SqL.of (by rw [wos_out h]; exact h1)) (DpAll.same (wos_less fun b z => List.mem_cons_of_mem _ z) _ _ h2)
/-- what a list of data is -/
theorem dp_list {K : PySem.W.Frag} {H : Hp} {v : V} {ds : List PyData} (h : Dp K H v (.list ds)) : ∃ a xs, v = .ref a ∧ SqL K H a xs ∧ DpAll K H xs ds := by
  cases h with
  | lst a b => exact ⟨_, _, rfl, a, b⟩
theorem dp_tup {K : PySem.W.Frag} {H : Hp} {v : V} {ds : List PyData} (h : Dp K H v (.tuple ds)) : ∃ a xs, v = .ref a ∧ SqT K H a xs ∧ DpAll K H xs ds := by
  cases h with
  | tup a b => exact ⟨_, _, rfl, a, b⟩
theorem dp_int {K : PySem.W.Frag} {H : Hp} {v : V} {i : Int} (h : Dp K H v (.int i)) : v = .int i := by
  cases h
  rfl
theorem dp_bl {K : PySem.W.Frag} {H : Hp} {v : V} {i : Bool} (h : Dp K H v (.bool i)) : v = .bl i := by
  cases h
  rfl
theorem dpAll2 {K : PySem.W.Frag} {H : Hp} {xs : List V} {a b : PyData} (h : DpAll K H xs [a, b]) : ∃ x y, xs = [x, y] ∧ Dp K H x a ∧ Dp K H y b := by
  cases h with
  | cons h t =>
    cases t with
    | cons h' t =>
      cases t
      exact ⟨_, _, rfl, h, h'⟩
theorem dpAll3 {K : PySem.W.Frag} {H : Hp} {xs : List V} {a b c : PyData} (h : DpAll K H xs [a, b, c]) : ∃ x y z, xs = [x, y, z] ∧ Dp K H x a ∧ Dp K H y b ∧ Dp K H z c := by
  cases h with
  | cons h t =>
    obtain ⟨y, z, rfl, h2, h3⟩ := dpAll2 t
    exact ⟨_, _, _, rfl, h, h2, h3⟩
theorem DpAll.app {K : PySem.W.Frag} {H : Hp} : ∀ {xs ys : List V} {ds es : List PyData}, DpAll K H xs ds → DpAll K H ys es → DpAll K H (xs ++ ys) (ds ++ es)
  | _, _, _, _, .nil, h => h
  | _, _, _, _, .cons a t, h => .cons a (DpAll.app t h)
theorem DpAll.dropn {K : PySem.W.Frag} {H : Hp} : ∀ (n : Nat) {xs : List V} {ds : List PyData}, DpAll K H xs ds → DpAll K H (xs.drop n) (ds.drop n)
  | 0, _, _, h => h
  | n + 1, _, _, .nil => .nil
  | n + 1, _, _, .cons _ t => DpAll.dropn n t
theorem DpAll.takn {K : PySem.W.Frag} {H : Hp} : ∀ (n : Nat) {xs : List V} {ds : List PyData}, DpAll K H xs ds → DpAll K H (xs.take n) (ds.take n)
  | 0, _, _, _ => .nil
  | n + 1, _, _, .nil => .nil
  | n + 1, _, _, .cons a t => .cons a (DpAll.takn n t)
/-! ### methods called with keywords -/
/-- o.m(e, .., k = v, ..) -/
def tMethN (C : Addr) (m : Str) (n j : Nat) (sp : Sp) (gV : List V → List V → List V) (E : XK) (ta : TE) (t tk : TA) : TE := fun σ H Q => ta σ H fun x H1 => ∃ a dx fs, x = .ref a ∧ H1 a = some (.ins C dx fs) ∧ fs.lookup m = none ∧
  t σ H1 fun vs H2 => tk σ H2 fun zs H3 => vs.length = n ∧ zs.length = j ∧ sp (gV (x :: vs) zs) H3 Q E
section
variable {X : Cx} {CX : CXT} {k n : Nat} {C f : Addr} {m : Str} {fd : FuncData} {ps ks : List Str} {sp : Sp} {E : XK} {o e : Expr} {es : List Expr} {apos pos : Pos} {kws : List Keyword} {ta : TE} {t tk : TA} {g : List Value → List Value → List Value} {gV : List V → List V → List V}
theorem pe_methN {pl : Sem Bool} (he : PE X o ta) (c : Cls X.K C) (hm : Meth X.K C m f) (F : FnOk X.prog X.w X.K X.mg X.base CX k f fd ps sp) (hr : Room k X.A) (hb : KBn X.K fd ps (n + 1) ks g gV) (hx : Passes CX X E) (ha : PA X (e :: es) t) (hkw : PK X kws tk)
    (hall : (backToKw pos (keywordEach kws X.env)).all (·.1.isSome) = true := by rfl) (hks : (backToKw pos (keywordEach kws X.env)).filterMap (·.1) = ks := by rfl)
    (hst : starEach (e :: es) X.env = (false, eval e X.env) :: starEach es X.env := by rfl) (hpl : ((backTo pos (starEach (e :: es) X.env)).any (·.1) || (backToKw pos (keywordEach kws X.env)).any (·.1.isNone)) = false := by rfl)
    (ht : eval (.Call (.Attribute o m apos) (e :: es) kws pos) X.env = (do
      let ov ← eval o X.env
      standAt apos.atName
      let (f, first) ← holding [ov] (getMethod ov m pl)
      callWith pos f first (backTo pos (starEach (e :: es) X.env)) (backToKw pos (keywordEach kws X.env))) := by rfl) :
    PE X (.Call (.Attribute o m apos) (e :: es) kws pos) (tMethN C m n ks.length sp gV E ta t tk) := by
  refine ⟨fun pins s σ H Q I h => ?_⟩
  refine PySem.W.methodCall_KW (pl := pl) (thn (he.run pins s σ H _ I h) fun u s1 ⟨x, H1, I1, rx, a, dx, fs, ex, ea, l, q⟩ => ?_) ht
  subst ex
  obtain rfl : u = Value.ref a := rx
  refine getmeth_ok I1 ea c hm l ?_
  refine PySem.W.callWith_KW (first := [.ref a]) (h₀ := X.base) I.ok.mod.kin hm.kp hall (thn (ha.run pos pins s1 σ H1 _ I1 q) fun us s2 ⟨vs, H2, I2, r, q2⟩ => ?_) hpl hst
  refine thn (hkw.run pos pins s2 σ H2 _ I2 q2) fun ws s3 ⟨zs, H3, I3, rz, l1, l2, q3⟩ => ⟨I3.kIn, ?_⟩
  rw [hks]
  exact run_fnN (us := .ref a :: us) (vs := .ref a :: vs) F hr hb hx I3 (.cons rfl r) rz (by rw [List.length_cons, l1]) l2 q3
/-- o.m(k = v, ..) -/
theorem pe_methN0 {pl : Sem Bool} (he : PE X o ta) (c : Cls X.K C) (hm : Meth X.K C m f) (F : FnOk X.prog X.w X.K X.mg X.base CX k f fd ps sp) (hr : Room k X.A) (hb : KBn X.K fd ps 1 ks g gV) (hx : Passes CX X E) (hkw : PK X kws tk)
    (hall : (backToKw pos (keywordEach kws X.env)).all (·.1.isSome) = true := by rfl) (hks : (backToKw pos (keywordEach kws X.env)).filterMap (·.1) = ks := by rfl)
    (hpl : ((backTo pos (starEach [] X.env)).any (·.1) || (backToKw pos (keywordEach kws X.env)).any (·.1.isNone)) = false := by rfl)
    (ht : eval (.Call (.Attribute o m apos) [] kws pos) X.env = (do
      let ov ← eval o X.env
      standAt apos.atName
      let (f, first) ← holding [ov] (getMethod ov m pl)
      callWith pos f first (backTo pos (starEach [] X.env)) (backToKw pos (keywordEach kws X.env))) := by rfl) :
    PE X (.Call (.Attribute o m apos) [] kws pos) (tMethN C m 0 ks.length sp gV E ta tNil tk) := by
  refine ⟨fun pins s σ H Q I h => ?_⟩
  refine PySem.W.methodCall_KW (pl := pl) (thn (he.run pins s σ H _ I h) fun u s1 ⟨x, H1, I1, rx, a, dx, fs, ex, ea, l, q⟩ => ?_) ht
  subst ex
  obtain rfl : u = Value.ref a := rx
  refine getmeth_ok I1 ea c hm l ?_
  refine PySem.W.callWith_KW0 (first := [.ref a]) (h₀ := X.base) I.ok.mod.kin hm.kp hall (thn (hkw.run pos pins s1 σ H1 _ I1 q) fun ws s3 ⟨zs, H3, I3, rz, l1, l2, q3⟩ => ⟨I3.kIn, ?_⟩) hpl
  rw [hks]
  exact run_fnN (us := [.ref a]) (vs := [.ref a]) F hr hb hx I3 (.cons rfl .nil) rz rfl l2 q3
end
end VG

set_option maxRecDepth 100000
/-! zip of two sequences, each a list or a tuple. -/
namespace VG
open PySem PySem.Spec PyProof.Rows L2
inductive Kd | l | t
def Kd.sq (K : PySem.W.Frag) (H : Hp) (a : Addr) (xs : List V) : Kd → Prop
  | .l => SqL K H a xs
  | .t => SqT K H a xs
def Kd.iter (h : Heap) (it a : Addr) (i : Nat) : Kd → Prop
  | .l => h.IsListIter it a i
  | .t => h.IsTupleIter it a i
def Kd.is (h : Heap) (a : Addr) (its : Array Value) : Kd → Prop
  | .l => h.IsList a its
  | .t => h.IsTuple a its
def Kd.obj (a : Addr) : Kd → Obj
  | .l => { cls := .type "list_iterator", data := .fields #[.ref a, .int 0 0] }
  | .t => { cls := .type "tuple_iterator", data := .fields #[.ref a, .int 0 0] }
theorem Kd.same {K : PySem.W.Frag} {H H' : Hp} {a : Addr} {xs : List V} (e : Same H H') : ∀ {k : Kd}, k.sq K H a xs → k.sq K H' a xs
  | .l, h => e.seq h
  | .t, h => Same.tup e h
theorem Kd.draws {P : Program} {w : World} {A : Around} (hh : A.handled = none) (it a : Addr) (hne : a ≠ it) (items : Array Value) : ∀ k : Kd, Draws P w A it [it, a] items.size (fun i v => items[i]? = some v) (fun i h => k.iter h it a i ∧ k.is h a items)
  | .l => Draws.list hh it a hne items
  | .t => Draws.tuple hh it a hne items
theorem Kd.begins (a : Addr) (items : Array Value) : ∀ k : Kd, Begins (.ref a) (k.obj a) fun h => k.is h a items
  | .l => begins_list a items
  | .t => begins_tuple a items
theorem Kd.start {h : Heap} {it a : Addr} : ∀ {k : Kd}, h.get? it = some (k.obj a) → k.iter h it a 0
  | .l, e => ⟨_, e, rfl, rfl⟩
  | .t, e => ⟨_, e, rfl, rfl⟩
theorem Kd.ito {h : Heap} {it a : Addr} {i : Nat} : ∀ {k : Kd}, k.iter h it a i → ∃ o, h.get? it = some o ∧ ∀ v, o.data ≠ .cell v
  | .l, ⟨o, e, _, d⟩ => ⟨o, e, fun v q => by rw [d] at q; cases q⟩
  | .t, ⟨o, e, _, d⟩ => ⟨o, e, fun v q => by rw [d] at q; cases q⟩
theorem Kd.itk {h h' : Heap} {it a : Addr} {i : Nat} : ∀ {k : Kd}, k.iter h it a i → (∀ o, h.get? it = some o → h'.get? it = some o) → k.iter h' it a i
  | .l, h1, f => h1.at fun o q => f o q
  | .t, h1, f => h1.at fun o q => f o q
section
variable {X : Cx} {pins : List (Addr × Obj)} {σ : L2.St} {H : Hp} {s : Shared}
theorem Kd.of (I : Inv X pins σ H s) {a : Addr} {xs : List V} : ∀ {k : Kd}, k.sq X.K H a xs → ∃ its : List Value, Vals xs its ∧ k.is s.heap a its.toArray ∧ a < s.heap.objs.size
  | .l, h => by
    obtain ⟨its, rv, p, _⟩ := I.list h
    exact ⟨its, rv, p.isList, p.lt⟩
  | .t, h => by
    obtain ⟨its, rv, p, _⟩ := I.tuple h
    obtain ⟨o, e, _⟩ := id p
    exact ⟨its, rv, p, Heap.lt_size e⟩
theorem Kd.inj (I : Inv X pins σ H s) {a : Addr} {xs ys : List V} : ∀ {k : Kd}, k.sq X.K H a xs → k.sq X.K H a ys → xs = ys
  | .l, h, h' => I.list_inj h h'
  | .t, h, h' => I.tuple_inj h h'
end
/-- the items of two sequences, in new pairs -/
def ItzG (K : PySem.W.Frag) (k1 k2 : Kd) (a b : Addr) : It :=
  ⟨fun i H => ∃ (xs ys : List V) (x y : V), k1.sq K H a xs ∧ k2.sq K H b ys ∧ xs[i]? = some x ∧ ys[i]? = some y,
    fun i H v H' => ∃ T x y, v = .ref T ∧ H T = none ∧ H' = upd H T (.tup [x, y]) ∧ (∀ xs, k1.sq K H a xs → xs[i]? = some x) ∧ ∀ ys, k2.sq K H b ys → ys[i]? = some y,
    fun i H => ∃ xs ys : List V, k1.sq K H a xs ∧ k2.sq K H b ys ∧ ((xs.length = i ∧ i ≤ ys.length) ∨ (ys.length = i ∧ i ≤ xs.length))⟩
theorem apart_sep {z TI TO i1 i2 a b : Addr} (D : ZipApart z TI TO i1 i2 a b) : ZipSep2 z TI TO i1 i2 [i1, a] [i2, b] where
  TIz := D.TIz
  TOz := D.TOz
  TITO := D.TITO
  TIi1 := D.TIi1
  mem1 := by simp
  zf1 := by simp [D.i1z.symm, D.l1z.symm]
  Tf1 := by simp [D.TOi1, D.l1TO.symm]
  TIi2 := D.TIi2
  mem2 := by simp
  zf2 := by simp [D.i2z.symm, D.l2z.symm]
  Tf2 := by simp [D.TOi2, D.l2TO.symm]
  sep1_2 := by simp [D.i12, D.l2i1.symm]
  sep2_1 := by simp [D.i12.symm, D.l1i2.symm]
theorem turn_zipG {P : Program} {w : World} {K : PySem.W.Frag} {elts : List Expr} {kk : Nat} {tpos : Pos} {k1 k2 : Kd} {a b z TI TO i1 i2 : Addr} (D : ZipApart z TI TO i1 i2 a b) :
    Turn P w K (.Tuple elts kk tpos) (ItzG K k1 k2 a b) [z, TI, TO, i1, i2] z (fun i h => IsZip h z TI TO .none ∧ IsTupOf2 h TI (.ref i1) (.ref i2) ∧ (∃ x y, IsTupOf2 h TO x y) ∧ k1.iter h i1 a i ∧ k2.iter h i2 b i) where
  mem := by simp
  obj := fun i h st c hc => by
    obtain ⟨hz, hTI, ⟨x, y, hTO⟩, e1, e2⟩ := st
    have e' : c = z ∨ c = TI ∨ c = TO ∨ c = i1 ∨ c = i2 := by simpa using hc
    rcases e' with q | q | q | q | q
    · rw [q]; exact ⟨_, hz, fun v q => nomatch q⟩
    · rw [q]; exact ⟨_, hTI, fun v q => nomatch q⟩
    · rw [q]; exact ⟨_, hTO, fun v q => nomatch q⟩
    · rw [q]; exact Kd.ito e1
    · rw [q]; exact Kd.ito e2
  keep := fun i h h' st k => by
    obtain ⟨hz, hTI, ⟨x, y, hTO⟩, h1, h2⟩ := st
    exact ⟨k z (by simp) _ hz, k TI (by simp) _ hTI, ⟨x, y, k TO (by simp) _ hTO⟩, Kd.itk h1 fun o q => k i1 (by simp) o q, Kd.itk h2 fun o q => k i2 (by simp) o q⟩
  item := by
    intro X hP hw hK hc i pins s σ H E I hf st hg
    subst hP hw hK
    obtain ⟨hz, hTI, ⟨x0, y0, hTO⟩, h1, h2⟩ := st
    obtain ⟨xs, ys, x, y, hqx, hqy, hx, hy⟩ := hg
    obtain ⟨its, rv, p, _⟩ := Kd.of I hqx
    obtain ⟨its2, rv2, p2, _⟩ := Kd.of I hqy
    obtain ⟨u, hu, ru⟩ := rv.get hx
    obtain ⟨u2, hu2, ru2⟩ := rv2.get hy
    have hzl : z < s.heap.objs.size := Heap.lt_size hz
    have lt1 : i < its.toArray.size := by
      obtain ⟨q, _⟩ := List.getElem?_eq_some_iff.mp hu
      simpa using q
    have lt2 : i < its2.toArray.size := by
      obtain ⟨q, _⟩ := List.getElem?_eq_some_iff.mp hu2
      simpa using q
    refine wpAny_pyNext_zipD2_item (apart_sep D) (Kd.draws (A := X.A.in1) (I.ok.hd hc) i1 a D.l1i1 its.toArray k1) (Kd.draws (A := X.A.in1) (I.ok.hd hc) i2 b D.l2i2 its2.toArray k2) hz hTI hTO ⟨h1, p⟩ ⟨h2, p2⟩ lt1 lt2 fun v1 v2 h' tk q1 q2 z' TO' st1' st2' hT hsz hk => ?_
    have ev1 : v1 = u := by
      have q1 : its.toArray[i]? = some v1 := q1
      have y : its.toArray[i]? = some u := by simpa using hu
      rw [y] at q1
      exact (Option.some.inj q1).symm
    have ev2 : v2 = u2 := by
      have q2 : its2.toArray[i]? = some v2 := q2
      have y : its2.toArray[i]? = some u2 := by simpa using hu2
      rw [y] at q2
      exact (Option.some.inj q2).symm
    subst ev1 ev2
    refine ⟨_, rfl, wpAny_letOwnedTupleGo_zip (s := { s with heap := h', toks := tk }) z' fun h'' z'' sb => ?_⟩
    have hT2 : h''.get? s.heap.objs.size = some { cls := .type "tuple", data := .seq #[v1, v2] } := (sb.2 _ (Nat.ne_of_gt hzl)).trans hT
    have new : ObjOk X.prog X.w (upd H s.heap.objs.size (.tup [x, y])) h'' s.heap.objs.size (.tup [x, y]) :=
      ⟨by show 2 ≤ sizeLine; decide, [v1, v2], .cons ru (.cons ru2 .nil), ⟨_, hT2, rfl, _, rfl⟩⟩
    have I1 : Inv X pins σ (upd H s.heap.objs.size (.tup [x, y])) { s with heap := h'', toks := tk } :=
      I.turnedNew (t' := tk) (ch := [z, TI, TO, i1, i2]) (fun c o hb q => (sb.2 c (fun q' => hb (by simp [q']))).trans (hk c o (fun q' => hb (by simp [q'])) (fun q' => hb (by simp [q'])) (fun q' => hb (by simp [q'])) (fun q' => hb (by simp [q'])) q)) hf (Nat.le_refl _) new
    refine ⟨.ref s.heap.objs.size, _, I1, rfl, ⟨_, x, y, rfl, I.hok.fresh (Nat.le_refl _), rfl, fun l hl => by rw [Kd.inj I hl hqx]; exact hx, fun l hl => by rw [Kd.inj I hl hqy]; exact hy⟩, ⟨z'', ?_, ⟨v1, v2, ?_⟩, ?_, ?_⟩, fun c hcm => ?_⟩
    · exact (sb.2 _ D.TIz).trans (hk _ _ D.TIz D.TITO D.TIi1 D.TIi2 hTI)
    · exact (sb.2 _ D.TOz).trans TO'
    · exact Kd.itk st1'.1 fun o q => (sb.2 _ D.i1z).trans q
    · exact Kd.itk st2'.1 fun o q => (sb.2 _ D.i2z).trans q
    · have hlt : c < s.heap.objs.size := by
        have e' : c = z ∨ c = TI ∨ c = TO ∨ c = i1 ∨ c = i2 := by simpa using hcm
        rcases e' with q | q | q | q | q
        · rw [q]; exact hzl
        · rw [q]; exact Heap.lt_size hTI
        · rw [q]; exact Heap.lt_size hTO
        · rw [q]; obtain ⟨_, e1, _⟩ := Kd.ito h1; exact Heap.lt_size e1
        · rw [q]; obtain ⟨_, e2, _⟩ := Kd.ito h2; exact Heap.lt_size e2
      rw [upd_ne (Nat.ne_of_lt hlt)]
      exact (hf c hcm).1
  done := by
    intro X hP hw hK hc i pins s σ H E I hf st hg
    subst hP hw hK
    obtain ⟨hz, hTI, ⟨x0, y0, hTO⟩, h1, h2⟩ := st
    obtain ⟨xs, ys, hqx, hqy, hend⟩ := hg
    obtain ⟨its, rv, p, _⟩ := Kd.of I hqx
    obtain ⟨its2, rv2, p2, _⟩ := Kd.of I hqy
    have l1 : its.toArray.size = xs.length := by
      have := rv.length
      simp; omega
    have l2 : its2.toArray.size = ys.length := by
      have := rv2.length
      simp; omega
    refine wpAny_pyNext_zipD2_end (apart_sep D) (Kd.draws (A := X.A.in1) (I.ok.hd hc) i1 a D.l1i1 its.toArray k1) (Kd.draws (A := X.A.in1) (I.ok.hd hc) i2 b D.l2i2 its2.toArray k2) hz hTI hTO ⟨h1, p⟩ ⟨h2, p2⟩ (by omega) (by omega) (by omega) fun h' tk hk => ⟨rfl, I.turnedL (t' := tk) (ch := [z, TI, TO, i1, i2]) (fun c o hb q =>
      hk c o (fun q' => hb (by simp [q'])) (fun q' => hb (by simp [q'])) (fun q' => hb (by simp [q'])) (fun q' => hb (by simp [q'])) q) hf⟩
  self := fun A i s Q E st h => wpAny_pyIter_zip st.1 h
def iZipG (K : PySem.W.Frag) (ta : TA) : TI := fun σ H R => ta σ H fun vs H1 => ∃ a b k1 k2 xs ys, vs = [.ref a, .ref b] ∧ Kd.sq K H1 a xs k1 ∧ Kd.sq K H1 b ys k2 ∧ R (ItzG K k1 k2 a b) H1
theorem pi_zipG {X : Cx} {e e2 : Expr} {ta : TA} {p pos tpos : Pos} {elts : List Expr} {kk : Nat} (hg : Gl X "zip") (hm : X.mg "zip" = none) (ha : PA X [e, e2] ta)
    (hs : starEach [e, e2] X.env = (false, eval e X.env) :: starEach [e2] X.env := by rfl) (hpl : (backTo pos (starEach [e2] X.env)).any (·.1) = false := by rfl) :
    PI X (.Tuple elts kk tpos) (.Call (.Name "zip" p) [e, e2] [] pos) (iZipG X.K ta) := by
  refine ⟨fun pins s σ H R I h => ?_⟩
  refine Call_ (ld_blt I hg hm PyProof.Rows.boot_zip (PyProof.Rows.callWith_type1 (thn (ha.run pos pins s σ H _ I h) fun us s1 ⟨vs, H1, I1, r1, q1⟩ => ?_) hs hpl))
  obtain ⟨a, b, k1, k2, xs, ys, ex, hqx, hqy, q⟩ := q1
  subst ex
  cases r1 with
  | cons r rr =>
    cases rr with
    | cons r' rr =>
      cases rr
      cases r
      cases r'
      have fresh5 : ∀ c, c ∈ [s1.heap.objs.size + 4, s1.heap.objs.size + 2, s1.heap.objs.size + 3, s1.heap.objs.size, s1.heap.objs.size + 1] → FpOk X pins H1 c := fun c hcm => by
        have e' : c = s1.heap.objs.size + 4 ∨ c = s1.heap.objs.size + 2 ∨ c = s1.heap.objs.size + 3 ∨ c = s1.heap.objs.size ∨ c = s1.heap.objs.size + 1 := by simpa using hcm
        have hle : s1.heap.objs.size ≤ c := by
          rcases e' with z | z | z | z | z
          · rw [z]; exact Nat.le_add_right _ _
          · rw [z]; exact Nat.le_add_right _ _
          · rw [z]; exact Nat.le_add_right _ _
          · rw [z]; exact Nat.le_refl _
          · rw [z]; exact Nat.le_add_right _ _
        exact I1.fpOk hle (I1.hok.fresh hle)
      obtain ⟨its, rv, p1, lt1⟩ := Kd.of I1 hqx
      obtain ⟨its2, rv2, p2, lt2⟩ := Kd.of I1 hqy
      refine zip_begins2 (Kd.begins a its.toArray k1) (Kd.begins b its2.toArray k2) p1 p2 fun h' hz hTI hTO h1 h2 hsz hk => wpAny_pyIter_zip hz ?_
      have I2 : Inv X pins σ H1 { s1 with heap := h' } := I1.kept (t' := s1.toks) hk
      exact ⟨s1.heap.objs.size + 4, [s1.heap.objs.size + 4, s1.heap.objs.size + 2, s1.heap.objs.size + 3, s1.heap.objs.size, s1.heap.objs.size + 1], _, _, H1, rfl, I2, turn_zipG (PySem.W.ktu_apart s1.heap.objs.size a b lt1 lt2), ⟨hz, hTI, ⟨_, _, hTO⟩, Kd.start h1, Kd.start h2⟩, fresh5, q⟩
/-- a comprehension over zip of two sequences of one length -/
theorem lc_zipG {K : PySem.W.Frag} {k1 k2 : Kd} {a b : Addr} {xs ys : List V} {g : TG} {tt : TT} {te : TE} {vs : List Nat} {σ : L2.St} {H1 : Hp} {D : Addr} {Qd : Hp → Prop} (hl : xs.length = ys.length) (Pv : Nat → Hp → Prop) (h0 : Pv 0 (upd H1 D (.lst []))) (hq : ∀ i H, i ≤ xs.length → Pv i H → k1.sq K H a xs ∧ k2.sq K H b ys)
    (hs : ∀ i x y T H, xs[i]? = some x → ys[i]? = some y → Pv i H → H T = none → g (.ref T) (wipe σ vs) (upd H T (.tup [x, y])) fun σ2 H2 => wipe σ2 vs = wipe σ vs ∧ tt σ2 H2 fun b H3 =>
      if b = true then te σ2 H3 fun y H4 => ∃ acc, H4 D = some (.lst acc) ∧ acc.length < sizeLine ∧ Pv (i + 1) (upd H4 D (.lst (acc ++ [y]))) else Pv (i + 1) H3) (hd : ∀ H, Pv xs.length H → Qd H) :
    ∃ W : Nat → Nat → Hp → Prop, (∃ m, W 0 m (upd H1 D (.lst []))) ∧ ∀ i m H, W i m H →
      ((ItzG K k1 k2 a b).stop i H ∧ Qd H) ∨ ((ItzG K k1 k2 a b).go i H ∧ ∃ Nx : Hp → Prop, (∀ H', Nx H' → ∃ m', m' < m ∧ W (i + 1) m' H') ∧ ∀ x H', (ItzG K k1 k2 a b).yld i H x H' → g x (wipe σ vs) H' fun σ2 H2 => wipe σ2 vs = wipe σ vs ∧ tt σ2 H2 fun b H3 =>
        if b = true then te σ2 H3 fun y H4 => ∃ acc, H4 D = some (.lst acc) ∧ acc.length < sizeLine ∧ Nx (upd H4 D (.lst (acc ++ [y]))) else Nx H3) := by
  refine ⟨fun i m H => m = xs.length - i ∧ i ≤ xs.length ∧ Pv i H, ⟨xs.length, by simp, Nat.zero_le _, h0⟩, ?_⟩
  rintro i m H ⟨rfl, hi, p⟩
  obtain ⟨qx, qy⟩ := hq i H hi p
  by_cases hlt : i < xs.length
  · have hx : xs[i]? = some xs[i] := List.getElem?_eq_getElem hlt
    have hlt2 : i < ys.length := by omega
    have hy : ys[i]? = some ys[i] := List.getElem?_eq_getElem hlt2
    refine .inr ⟨⟨xs, ys, _, _, qx, qy, hx, hy⟩, Pv (i + 1), fun H' p' => ⟨xs.length - (i + 1), by omega, rfl, hlt, p'⟩, fun v H' y => ?_⟩
    obtain ⟨T, x', y', rfl, hT, rfl, f1, f2⟩ := y
    exact hs i x' y' T H (f1 xs qx) (f2 ys qy) p hT
  · have e : i = xs.length := by omega
    subst e
    exact .inl ⟨⟨xs, ys, qx, qy, .inl ⟨rfl, by omega⟩⟩, hd H p⟩
/-! ### one sequence, a list or a tuple -/
def Kd.it (K : PySem.W.Frag) (a : Addr) : Kd → It
  | .l => Itl K a
  | .t => Itt K a
def iA (K : PySem.W.Frag) (tl : TE) : TI := fun σ H R => ∃ k : Kd, tl σ H fun x H1 => ∃ a, x = .ref a ∧ (∃ xs, k.sq K H1 a xs) ∧ R (k.it K a) H1
theorem pi_A {X : Cx} {tg l : Expr} {tl : TE} (hl : PE X l tl) : PI X tg l (iA X.K tl) := by
  refine ⟨fun pins s σ H R I h => ?_⟩
  obtain ⟨k, h⟩ := h
  cases k with
  | l => exact (pi_list (tg := tg) hl).run pins s σ H R I h
  | t => exact (pi_tup (tg := tg) hl).run pins s σ H R I h
theorem lc_A {K : PySem.W.Frag} {k : Kd} {a : Addr} {xs : List V} {g : TG} {tt : TT} {te : TE} {vs : List Nat} {σ : L2.St} {H1 : Hp} {D : Addr} {Qd : Hp → Prop} (Pv : Nat → Hp → Prop) (h0 : Pv 0 (upd H1 D (.lst []))) (hl : ∀ i H, i ≤ xs.length → Pv i H → k.sq K H a xs)
    (hs : ∀ i x H, xs[i]? = some x → Pv i H → g x (wipe σ vs) H fun σ2 H2 => wipe σ2 vs = wipe σ vs ∧ tt σ2 H2 fun b H3 =>
      if b = true then te σ2 H3 fun y H4 => ∃ acc, H4 D = some (.lst acc) ∧ acc.length < sizeLine ∧ Pv (i + 1) (upd H4 D (.lst (acc ++ [y]))) else Pv (i + 1) H3) (hd : ∀ H, Pv xs.length H → Qd H) :
    ∃ W : Nat → Nat → Hp → Prop, (∃ m, W 0 m (upd H1 D (.lst []))) ∧ ∀ i m H, W i m H →
      ((k.it K a).stop i H ∧ Qd H) ∨ ((k.it K a).go i H ∧ ∃ Nx : Hp → Prop, (∀ H', Nx H' → ∃ m', m' < m ∧ W (i + 1) m' H') ∧ ∀ x H', (k.it K a).yld i H x H' → g x (wipe σ vs) H' fun σ2 H2 => wipe σ2 vs = wipe σ vs ∧ tt σ2 H2 fun b H3 =>
        if b = true then te σ2 H3 fun y H4 => ∃ acc, H4 D = some (.lst acc) ∧ acc.length < sizeLine ∧ Nx (upd H4 D (.lst (acc ++ [y]))) else Nx H3) := by
  cases k with
  | l => exact lc_list (K := K) (a := a) (xs := xs) Pv h0 hl hs hd
  | t => exact lc_tup (K := K) (a := a) (xs := xs) Pv h0 hl hs hd
/-- data that are a list or a tuple -/
theorem dp_seq {K : PySem.W.Frag} {H : Hp} {v : V} {d : PyData} {ds : List PyData} (h : Dp K H v d) (e : d = .list ds ∨ d = .tuple ds) : ∃ (k : Kd) (a : Addr) (xs : List V), v = .ref a ∧ k.sq K H a xs ∧ DpAll K H xs ds := by
  rcases e with rfl | rfl
  · obtain ⟨a, xs, h1, h2, h3⟩ := dp_list h
    exact ⟨.l, a, xs, h1, h2, h3⟩
  · obtain ⟨a, xs, h1, h2, h3⟩ := dp_tup h
    exact ⟨.t, a, xs, h1, h2, h3⟩
theorem Kd.len {K : PySem.W.Frag} {H : Hp} {a : Addr} {xs : List V} : ∀ {k : Kd}, k.sq K H a xs → SqL K H a xs ∨ SqT K H a xs
  | .l, h => .inl h
  | .t, h => .inr h
end VG

set_option maxRecDepth 100000
/-! Data without lists. -/
namespace VG
open PySem PySem.Spec PyProof.Rows L2
mutual
def noL : PyData → Bool
  | .list _ => false
  | .dict _ => false
  | .tuple ds => noLs ds
  | _ => true
def noLs : List PyData → Bool
  | [] => true
  | d :: ds => noL d && noLs ds
end
theorem sqT_wos {K : PySem.W.Frag} {S : List Addr} {G : Hp} {a : Addr} {xs : List V} (hS : ∀ b ∈ S, ∃ ys, G b = some (.lst ys)) (h : SqT K G a xs) : SqT K (wos S G) a xs := by
  have off : ∀ {o : HO}, G a = some o → (∀ ys, o ≠ .lst ys) → wos S G a = some o := fun {o} e n => by
    rw [wos_out]
    · exact e
    · intro z
      obtain ⟨ys, hy⟩ := hS a z
      rw [e] at hy
      exact n ys (Option.some.inj hy)
  rcases h with (h | ⟨o, h⟩) | h
  · exact .inl (.inl (off h fun _ z => nomatch z))
  · exact .inl (.inr ⟨o, off h fun _ z => nomatch z⟩)
  · exact .inr h
mutual
theorem Dp.wosT {K : PySem.W.Frag} {S : List Addr} {G : Hp} (hS : ∀ b ∈ S, ∃ ys, G b = some (.lst ys)) : ∀ (d : PyData) (v : V), noL d = true → Dp K G v d → Dp K (wos S G) v d
  | .none, _, _, h => by cases h; exact .non
  | .bool b, _, _, h => by cases h; exact .bl b
  | .int i, _, _, h => by cases h; exact .int i
  | .str x, _, _, h => by cases h; exact .str x
  | .list ds, _, n, _ => by cases n
  | .tuple ds, _, n, h => by
    cases h with
    | tup a b => exact .tup (sqT_wos hS a) (DpAll.wosT hS ds _ n b)
  | .dict _, _, n, _ => by cases n
theorem DpAll.wosT {K : PySem.W.Frag} {S : List Addr} {G : Hp} (hS : ∀ b ∈ S, ∃ ys, G b = some (.lst ys)) : ∀ (ds : List PyData) (vs : List V), noLs ds = true → DpAll K G vs ds → DpAll K (wos S G) vs ds
  | [], _, _, h => by cases h; exact .nil
  | d :: ds, _, n, h => by
    obtain ⟨n1, n2⟩ := Bool.and_eq_true_iff.mp (show (noL d && noLs ds) = true from n)
    cases h with
    | cons a b => exact .cons (Dp.wosT hS d _ n1 a) (DpAll.wosT hS ds _ n2 b)
end
theorem noLs_of {ds : List PyData} (h : ∀ d ∈ ds, noL d = true) : noLs ds = true := by
  induction ds with
  | nil => rfl
  | cons d ds ih =>
    show (noL d && noLs ds) = true
    rw [h d List.mem_cons_self, ih fun e he => h e (List.mem_cons_of_mem _ he)]
    rfl
/-- data on new addresses stand without what was there ahead -/
theorem newer_wos {S : List Addr} {H G : Hp} (hS : ∀ b ∈ S, ∃ o, H b = some o) : Same (newer H G) (wos S G) := fun b o e => by
  cases z : H b with
  | some u =>
    rw [newer_none z] at e
    cases e
  | none =>
    rw [newer_at z] at e
    rw [wos_out]
    · exact e
    · intro y
      obtain ⟨u, hu⟩ := hS b y
      rw [z] at hu
      cases hu
/-- a list that grows, of data without lists -/
theorem Acc.put {K : PySem.W.Frag} {S : List Addr} {D : Addr} {H G : Hp} {ds : List PyData} {d : PyData} {y : V} (c : Acc K S D H ds) (e : Same H G) (hS : ∀ b ∈ S, ∃ ys, G b = some (.lst ys)) (n : noL d = true) (hy : Dp K G y d) :
    ∃ acc, G D = some (.lst acc) ∧ acc.length = ds.length ∧ Acc K S D (upd G D (.lst (acc ++ [y]))) (ds ++ [d]) := by
  have c2 := c.on (Exs.of e) fun o h => e D o h
  obtain ⟨acc, h1, _⟩ := c2.ex
  exact c2.more (Dp.wosT (fun b hb => by
    rcases List.mem_cons.mp hb with rfl | hb
    · exact ⟨_, h1⟩
    · exact hS b hb) d y n hy)
/-- a plain call of a def with a star parameter, its reading named (for comprehensions) -/
def tCallR (sp : Sp) (E : XK) (t : TA) : TE := fun σ H Q => t σ H fun vs H1 => sp vs H1 Q E
theorem pe_named {X : Cx} {e : Expr} {sp : Sp} {E : XK} {t : TA} (h : PE X e (fun σ H Q => t σ H fun vs H1 => sp vs H1 Q E)) : PE X e (tCallR sp E t) := h
end VG

set_option maxRecDepth 100000
/-! enumerate of a sequence, a list or a tuple. -/
namespace VG
open PySem PySem.Spec PyProof.Rows L2
set_option maxHeartbeats 1000000 in
theorem meets_enum1 {v : Value} {o : Obj} {H : Heap → Prop} (B : Begins v o H) :
    Meets (Builtin.«enumerate.__new__» ⟨[.type "enumerate", v], []⟩) (fun _ R s => H s.heap ∧
      R (.ok (.ret (.ref (s.heap.push o).objs.size))) { s with heap := (s.heap.push o).push { cls := .type "enumerate", data := .fields #[.none, .bool false, .ref s.heap.objs.size, rawInt 0, .none, .none] } }) :=
  .of_wp fun prog w A R s h => by
    obtain ⟨hp, g, d, tk, os⟩ := s
    obtain ⟨h1, h⟩ := h
    have hsub := sub_enumerate
    have q1 : ∀ {B' : Around} {E : Value → Shared → Prop} {Q : Value → Shared → Prop}, Q (.ref hp.objs.size) ⟨hp.push o, g, d, tk, os⟩ → wpAny (model prog w) B' (pyIter v) Q E ⟨hp, g, d, tk, os⟩ := fun q => B.iter prog w _ _ ⟨hp, g, d, tk, os⟩ _ h1 q
    wp_walk using q1
    refine wpAny_stack_any fun st => wpAny_pure ?_
    split
    · rename_i c _ _ _ _ _
      cases (c == Value.type "enumerate") <;> (wp_walk using q1; exact ⟨_, rfl, h⟩)
    · wp_walk using q1
      exact ⟨_, rfl, h⟩
section
variable {prog : Program} {w : World} {A : Around} {E : Value → Shared → Prop} {s : Shared}
theorem call_enum1 {v : Value} {o : Obj} {H : Heap → Prop} {Q : Value → Shared → Prop} (B : Begins v o H) (h1 : H s.heap)
    (h : ∀ h', IsEnum h' (s.heap.objs.size + 1) s.heap.objs.size 0 .none → h'.get? s.heap.objs.size = some o → (∀ b o, s.heap.get? b = some o → h'.get? b = some o) → Q (.ref (s.heap.objs.size + 1)) { s with heap := h' }) :
    wpAny (model prog w) A (call (.type "enumerate") [v]) Q E s := by
  refine callType_new F.called_enumerate (by decide) (F.typeCall_enumerate_1 _) (F.newCall_enumerate_1 _) (fun obj => F.args_object_init_2 obj _) F.entry_enumerate_new (meets_enum1 B) ⟨h1, ?_⟩
  have hz : (s.heap.push o).objs.size = s.heap.objs.size + 1 := Heap.size_push ..
  have he : IsEnum ((s.heap.push o).push { cls := .type "enumerate", data := .fields #[.none, .bool false, .ref s.heap.objs.size, rawInt 0, .none, .none] }) (s.heap.objs.size + 1) s.heap.objs.size 0 .none := by
    have z := Heap.get?_push_size (s.heap.push o) (o := { cls := .type "enumerate", data := .fields #[.none, .bool false, .ref s.heap.objs.size, rawInt 0, .none, .none] }) rfl
    rw [hz] at z
    exact z
  show _ ∧ _
  rw [hz]
  exact ⟨⟨_, he, rfl⟩, h _ he (Heap.get?_push_of_some _ (Heap.get?_push_size _ B.free)) fun b o x => Heap.get?_push_of_some _ (Heap.get?_push_of_some _ x)⟩
end
/-- the items of a sequence, with their numbers, in new pairs -/
def IteG (K : PySem.W.Frag) (k : Kd) (a : Addr) : It :=
  ⟨fun i H => ∃ (xs : List V) (x : V), k.sq K H a xs ∧ xs[i]? = some x, fun i H v H' => ∃ T x, v = .ref T ∧ H T = none ∧ H' = upd H T (.tup [.int (i : Nat), x]) ∧ ∀ xs, k.sq K H a xs → xs[i]? = some x, fun i H => ∃ xs : List V, k.sq K H a xs ∧ xs.length = i⟩
theorem turn_enumG {P : Program} {w : World} {K : PySem.W.Frag} {elts : List Expr} {kk : Nat} {tpos : Pos} {k : Kd} {a e it : Addr} (n1 : a ≠ it) (n2 : a ≠ e) (n3 : e ≠ it) :
    Turn P w K (.Tuple elts kk tpos) (IteG K k a) [e, it] e (fun i h => (∃ old, IsEnum h e it ((i : Nat) : Int) old) ∧ k.iter h it a i) where
  mem := by simp
  obj := fun i h st b hb => by
    obtain ⟨⟨old, he⟩, hi⟩ := st
    rcases (show b = e ∨ b = it by simpa using hb) with rfl | rfl
    · exact ⟨_, he, fun v q => nomatch q⟩
    · exact Kd.ito hi
  keep := fun i h h' st f => by
    obtain ⟨⟨old, he⟩, hi⟩ := st
    exact ⟨⟨old, f e (by simp) _ he⟩, Kd.itk hi fun o q => f it (by simp) o q⟩
  item := by
    intro X hP hw hK hc i pins s σ H E I hf st hg
    subst hP hw hK
    obtain ⟨⟨old, he⟩, hit⟩ := st
    obtain ⟨xs, x, hq, hx⟩ := hg
    obtain ⟨its, rv, p, _⟩ := Kd.of I hq
    obtain ⟨u, hu, ru⟩ := rv.get hx
    have hel : e < s.heap.objs.size := Heap.lt_size he
    have hil : it < s.heap.objs.size := by
      obtain ⟨_, q, _⟩ := Kd.ito hit
      exact Heap.lt_size q
    have lt : i < its.toArray.size := by
      obtain ⟨q, _⟩ := List.getElem?_eq_some_iff.mp hu
      simpa using q
    refine wpAny_pyNext_enum_itemC (Kd.draws (A := X.A.in1) (I.ok.hd hc) it a n1 its.toArray k) he ⟨hit, p⟩ lt n3 (by simp [n3, n2.symm]) fun v h' tk q1 ho hs hT hsz hk => ?_
    have ev : v = u := by
      have q1 : its.toArray[i]? = some v := q1
      rw [show its.toArray[i]? = some u by simpa using hu] at q1
      exact (Option.some.inj q1).symm
    subst ev
    refine ⟨_, rfl, wpAny_letOwnedTupleGo_enum (s := { s with heap := h', toks := tk + 1 }) ho fun h'' he' sb => ?_⟩
    have hT2 : h''.get? s.heap.objs.size = some { cls := .type "tuple", data := .seq #[.int i tk, v] } := (sb.2 _ (Nat.ne_of_gt hel)).trans hT
    have I1 : Inv X pins σ (upd H s.heap.objs.size (.tup [.int (i : Nat), x])) { s with heap := h'', toks := tk + 1 } :=
      I.turnedNew (ch := [e, it]) (fun b ob hb q => (sb.2 b (fun z => hb (by simp [z]))).trans (hk b ob (fun z => hb (by simp [z])) (fun z => hb (by simp [z])) q)) hf (Nat.le_refl _)
        ⟨by show 2 ≤ sizeLine; decide, [.int i tk, v], .cons ⟨_, rfl⟩ (.cons ru .nil), ⟨_, hT2, rfl, _, rfl⟩⟩
    refine ⟨.ref s.heap.objs.size, _, I1, rfl, ⟨_, x, rfl, I.hok.fresh (Nat.le_refl _), rfl, fun ys hy => by rw [Kd.inj I hy hq]; exact hx⟩, ⟨⟨v, ?_⟩, Kd.itk hs.1 fun o q => (sb.2 it (Ne.symm n3)).trans q⟩, fun b hb => ?_⟩
    · have e1 : ((i + 1 : Nat) : Int) = (i : Int) + 1 := by omega
      rw [e1]
      exact he'
    · have hb' : b < s.heap.objs.size := by
        rcases (show b = e ∨ b = it by simpa using hb) with rfl | rfl
        · exact hel
        · exact hil
      rw [upd_ne (Nat.ne_of_lt hb')]
      exact (hf b hb).1
  done := by
    intro X hP hw hK hc i pins s σ H E I hf st hg
    subst hP hw hK
    obtain ⟨⟨old, he⟩, hit⟩ := st
    obtain ⟨xs, hq, hl⟩ := hg
    obtain ⟨its, rv, p, _⟩ := Kd.of I hq
    have l1 : its.toArray.size = i := by
      have := rv.length
      simp
      omega
    subst l1
    refine wpAny_pyNext_enum_endD (Kd.draws (A := X.A.in1) (I.ok.hd hc) it a n1 its.toArray k) he ⟨hit, p⟩ fun h' eb => ⟨rfl, I.turnedL (t' := s.toks) (ch := [e, it]) (fun b o hb q => eb b o (fun z => hb (by simp [z])) q) hf⟩
  self := fun A i s Q E st h => by
    obtain ⟨⟨_, he⟩, _⟩ := st
    exact wpAny_pyIter_enum he h
def iEnumG (K : PySem.W.Frag) (ta : TA) : TI := fun σ H R => ta σ H fun vs H1 => ∃ a k xs, vs = [.ref a] ∧ Kd.sq K H1 a xs k ∧ R (IteG K k a) H1
theorem pi_enumG {X : Cx} {e : Expr} {ta : TA} {p pos tpos : Pos} {elts : List Expr} {kk : Nat} (hg : Gl X "enumerate") (hm : X.mg "enumerate" = none) (ha : PA X [e] ta) (hs : starEach [e] X.env = [(false, eval e X.env)] := by rfl) :
    PI X (.Tuple elts kk tpos) (.Call (.Name "enumerate" p) [e] [] pos) (iEnumG X.K ta) := by
  refine ⟨fun pins s σ H R I h => ?_⟩
  refine Call_ (ld_blt I hg hm boot_enumerate (PyProof.Rows.callWith_type1 (thn (ha.run pos pins s σ H _ I h) fun us s1 ⟨vs, H1, I1, r1, q1⟩ => ?_) hs rfl))
  obtain ⟨a, k, xs, ex, hq, q⟩ := q1
  subst ex
  cases r1 with
  | cons r rr =>
    cases rr
    cases r
    obtain ⟨its, rv, p', lt⟩ := Kd.of I1 hq
    refine call_enum1 (Kd.begins a its.toArray k) p' fun h' he hit hk => wpAny_pyIter_enum he ?_
    have I2 : Inv X pins σ H1 { s1 with heap := h' } := I1.kept (t' := s1.toks) hk
    refine ⟨s1.heap.objs.size + 1, [s1.heap.objs.size + 1, s1.heap.objs.size], _, _, H1, rfl, I2, turn_enumG (k := k) (a := a) (Nat.ne_of_lt lt) (Nat.ne_of_lt (Nat.lt_succ_of_lt lt)) (Nat.succ_ne_self _), ⟨⟨.none, he⟩, Kd.start hit⟩, fun b hb => ?_, q⟩
    have hle : s1.heap.objs.size ≤ b := by
      rcases (show b = s1.heap.objs.size + 1 ∨ b = s1.heap.objs.size by simpa using hb) with z | z
      · rw [z]
        exact Nat.le_succ _
      · rw [z]
        exact Nat.le_refl _
    exact I1.fpOk hle (I1.hok.fresh hle)
/-- a loop over enumerate of a sequence -/
theorem for_enumG {K : PySem.W.Frag} {k : Kd} {a : Addr} {xs : List V} {g : TG} {tb : TS} {D : Ends} {σ : L2.St} {H : Hp} (Pv : Nat → L2.St → Hp → Prop) (h0 : Pv 0 σ H) (hl : ∀ i σ H, Pv i σ H → k.sq K H a xs)
    (hs : ∀ (i : Nat) (x : V) (T : Addr) (σ : L2.St) (H : Hp), xs[i]? = some x → Pv i σ H → H T = none → g (.ref T) σ (upd H T (.tup [.int (i : Nat), x])) fun σ2 H2 => tb { D with nx := Pv (i + 1), ct := Pv (i + 1), bk := D.nx } σ2 H2) (hd : ∀ σ H, Pv xs.length σ H → D.nx σ H) :
    ∃ W : Nat → Nat → L2.St → Hp → Prop, (∃ m, W 0 m σ H) ∧ ∀ i m σ H, W i m σ H →
      ((IteG K k a).stop i H ∧ D.nx σ H) ∨ ((IteG K k a).go i H ∧ ∃ N : L2.St → Hp → Prop, (∀ σ' H', N σ' H' → ∃ m', m' < m ∧ W (i + 1) m' σ' H') ∧ ∀ v H', (IteG K k a).yld i H v H' → g v σ H' fun σ2 H2 => tb { D with nx := N, ct := N, bk := D.nx } σ2 H2) := by
  refine ⟨fun i m σ H => m = xs.length - i ∧ i ≤ xs.length ∧ Pv i σ H, ⟨_, rfl, Nat.zero_le _, h0⟩, ?_⟩
  rintro i m σ H ⟨rfl, hi, p⟩
  have q := hl i σ H p
  by_cases lt : i < xs.length
  · have hx : xs[i]? = some xs[i] := List.getElem?_eq_getElem lt
    refine .inr ⟨⟨xs, _, q, hx⟩, Pv (i + 1), fun σ' H' p' => ⟨xs.length - (i + 1), by omega, rfl, lt, p'⟩, fun v H' y => ?_⟩
    obtain ⟨T, x', rfl, hT, rfl, f⟩ := y
    exact hs i x' T σ H (f xs q) p hT
  · obtain rfl : i = xs.length := by omega
    exact .inl ⟨⟨xs, q, rfl⟩, hd σ H p⟩
end VG

set_option maxRecDepth 100000
/-! A text times a number. -/
namespace VG
open PySem PySem.Spec PyProof.Rows L2
theorem fold_rep (a : Array Nat) : ∀ k : Nat, ((List.replicate k a).foldl (· ++ ·) #[]).toList = (List.replicate k a.toList).flatten := by
  have key : ∀ (l : List (Array Nat)) (z : Array Nat), (l.foldl (· ++ ·) z).toList = z.toList ++ (l.map Array.toList).flatten := by
    intro l
    induction l with
    | nil => intro z; simp
    | cons x l ih =>
      intro z
      rw [List.foldl_cons, ih, Array.toList_append, List.map_cons, List.flatten_cons, List.append_assoc]
  intro k
  rw [key]
  simp
theorem rep_len (a : Array Nat) (k : Nat) : ((List.replicate k a).foldl (· ++ ·) #[]).size = k * a.size := by
  rw [← Array.length_toList, fold_rep]
  simp
theorem op_mul_str {X : Cx} : OpR X (binaryOp .Mult) (fun x y H Q => ∃ (a : Str) (k : Nat), x = .str a ∧ y = .int k ∧ 2 ≤ k ∧ k ≤ 1000 ∧ 1 ≤ a.length ∧ a.length ≤ 1000 ∧ Q (.str ⟨((List.replicate k a.cps.toList).flatten).toArray⟩) H) := by
  intro pins s σ H x y v u Q I rx ry h
  obtain ⟨a, k, rfl, rfl, h1, h2, h3, h4, q⟩ := h
  obtain ⟨t, rfl⟩ := rx
  obtain ⟨t', rfl⟩ := ry
  have sz : a.length * k ≤ 1000000 := Nat.mul_le_mul h4 h2
  have e : (⟨(List.replicate k a.cps).foldl (· ++ ·) #[]⟩ : Str) = ⟨((List.replicate k a.cps.toList).flatten).toArray⟩ := by
    refine TL.ext_tl ?_
    exact fold_rep _ _
  have ln : (⟨(List.replicate k a.cps).foldl (· ++ ·) #[]⟩ : Str).length ≤ sizeLine := by
    show ((List.replicate k a.cps).foldl (· ++ ·) #[]).size ≤ sizeLine
    rw [rep_len]
    have : a.cps.size = a.length := rfl
    rw [this, Nat.mul_comm]
    exact Nat.le_trans sz (by decide)
  have one : ((k : Int) == 1 || a.length == 0) = false := by
    rw [Bool.or_eq_false_iff]
    exact ⟨beq_eq_false_iff_ne.mpr (by omega), beq_eq_false_iff_ne.mpr (by omega)⟩
  refine PySem.P.mul_str (by rw [decide_eq_false (by omega), decide_eq_false (by omega)]; rfl) (fun _ _ => ?_) (fun _ _ => ?_) ?_
  · have h5 : (a.length : Int) ≤ (2 ^ 63 - 1) / (k : Int) := Int.le_ediv_of_mul_le (by omega) (by
      have this : ((a.length * k : Nat) : Int) ≤ 1000000 := Int.ofNat_le.mpr sz
      rw [Int.natCast_mul] at this
      omega)
    omega
  · show decide (a.length * (k : Int).toNat > sizeLine) = false
    rw [Int.toNat_natCast]
    have : (1000000 : Nat) ≤ sizeLine := by decide
    exact decide_eq_false (by omega)
  · rw [if_neg (by omega), if_neg (by rw [one]; decide), Int.toNat_natCast]
    exact ⟨ln, ⟨.str _, H, I.tok _, ⟨_, rfl⟩, by rw [e]; exact q⟩⟩
end VG

set_option maxRecDepth 100000
namespace Lw
open PySem L2 VG
def topS (i : Nat) : Stmt := PySem.Challenge.pw_missingmiles_k04_texts_of_ratios.main.body.getD i (.Pass ⟨0, 0, 0, 0⟩)
abbrev s_copied : Stmt := topS 2
abbrev s_MilesError : Stmt := topS 4
abbrev s_Missing : Stmt := topS 5
abbrev s_InvalidRatio : Stmt := topS 6
abbrev s_NothingLeft : Stmt := topS 7
abbrev s__is_whole : Stmt := topS 10
abbrev s_is_ratio : Stmt := topS 11
abbrev s_ratio_of : Stmt := topS 12
abbrev s__figures : Stmt := topS 13
abbrev s_ratio_text : Stmt := topS 14
abbrev s__are_figures : Stmt := topS 15
abbrev s_read_ratio : Stmt := topS 16
abbrev sSource : Stmt := topS 18
abbrev sDraw : Stmt := topS 19
abbrev sOf : Stmt := topS 20
abbrev sSame : Stmt := topS 21
abbrev s__law_fields : Stmt := topS 22
abbrev s__law_ask : Stmt := topS 23
abbrev s__law_low : Stmt := topS 24
abbrev s__law_wide : Stmt := topS 25
abbrev s__law_pair : Stmt := topS 26
abbrev s__law_text : Stmt := topS 27
abbrev s__law_figures : Stmt := topS 28
abbrev s__law_ratio_in : Stmt := topS 29
abbrev sLaw : Stmt := topS 30
/-! ### the source of draws -/
def srcL (q : Addr) (i c seed n : Int) : List V := [.ref q, .int i, .int c, .int seed, .int n]
structure Src (H : Hp) (p q : Addr) (cells : List Int) : Prop where
  ex : ∃ i c seed n : Int, H p = some (.lst (srcL q i c seed n)) ∧ 0 ≤ i ∧ 0 ≤ c
  cs : H q = some (.lst (cells.map V.int))
  few : cells.length ≤ 63
  ne : p ≠ q
/-- all but p is as it was -/
def But (p : Addr) (H H' : Hp) : Prop := ∀ b, b ≠ p → H' b = H b
theorem But.refl (p : Addr) (H : Hp) : But p H H := fun _ _ => rfl
theorem But.trans {p : Addr} {H H1 H2 : Hp} (a : But p H H1) (b : But p H1 H2) : But p H H2 := fun c n => (b c n).trans (a c n)
theorem But.upd {p : Addr} {H : Hp} {o : HO} : But p H (upd H p o) := fun _ n => upd_ne n
def spSource (K : PySem.W.Frag) : Sp := fun vs H Q _ => ∃ (a : Addr) (ns : List Int), vs = [.ref a] ∧ SqL K H a (ns.map V.int) ∧ ns.length ≤ 63 ∧
  ∀ (p q : Addr) (H' : Hp), H p = none → H q = none → Same H H' → Src H' p q ns → Q (.ref p) H'
def spDraw : Sp := fun vs H Q _ => ∃ (p q : Addr) (cells : List Int) (m : Int), vs = [.ref p, .int m] ∧ Src H p q cells ∧ 0 < m ∧ m < 2 ^ 100 ∧
  ∀ (r : Int) (H' : Hp), 0 ≤ r → r < m → Src H' p q cells → But p H H' → Q (.int r) H'
/-- what the law's helpers ask of the names of the top -/
structure Nm (mg : Str → Option Value) : Prop where
  int : mg "int" = none
  len : mg "len" = none
  list : mg "list" = none
  repr : mg "repr" = none
section
variable {P : Program} {w : World} {K : PySem.W.Frag} {mg : Str → Option Value} {base : Heap}
theorem scSource : FnScope ["_law_script", "_law_seed", "_law_cell"] ["_law_script"] (defScope sSource) := ⟨rfl, rfl, rfl, by decide +kernel, rfl, by decide +kernel, by decide +kernel⟩
theorem scDraw : FnScope ["_law_src", "_law_many", "_law_cell", "_law_digit", "_law_root", "_law_grown"] ["_law_src", "_law_many"] (defScope sDraw) := ⟨rfl, rfl, rfl, by decide +kernel, rfl, by decide +kernel, by decide +kernel⟩
theorem ok_draw {f : Addr} {fd : FuncData} (F : Fun K "_law_draw" "_law_draw" sDraw f fd) (T : Nm mg) : FnOk P w K mg base CX0 1 f fd ["_law_src", "_law_many"] spDraw := by
  refine F.ok scDraw (fun vs H Q E h => ?_) (fun cdv A outer s H vs Q E hr h => ?_)
  · obtain ⟨p, q, cells, m, rfl, _⟩ := h
    rfl
  · obtain ⟨p, q, cells, m, rfl, ⟨⟨i, c, seed, n, hp, hi, hc⟩, hq, hfew, hne⟩, hm0, hm1, k⟩ := h
    have nd := scDraw.nd
    refine ⟨_, C8.pss_cut (ps_if (PW.pt (pw_and (pt_cmpR op_lt (pe_ix ix_list (pv 0) pe_int fun _ _ => rfl) (pv 1) (nomark _))
          (pw_and1 (pt_cmpR op_lt (pe_ix ix_list (pv 0) pe_int fun _ _ => rfl) (pe_callB call_len_seq (by rfl) T.len PySem.boot_len (pa_cons (pe_ix ix_list (pv 0) pe_int fun _ _ => rfl) pa_nil)) (nomark _)))))
        (pss_cons (ps_set (i := 2) nd rfl (Or.inl rfl) (pe_ix ix_list (pe_ix ix_list (pv 0) pe_int fun _ _ => rfl) (pe_ix ix_list (pv 0) pe_int fun _ _ => rfl) fun _ _ => rfl))
        (pss_cons (ps_asg (pe_op op_add (pe_ix ix_list (pv 0) pe_int fun _ _ => rfl) pe_int) (pg_sub (pv 0) pe_int set_list))
        (pss_cons (ps_asg (pe_op op_mod (pe_callTy call_int1 (by rfl) T.int (by decide +kernel) (pa_cons (pe_op op_add (pe_op op_add (pe_op op_mul (pe_ix ix_list (pv 0) pe_int fun _ _ => rfl) pe_int)
            (pe_op op_mod (pe_callTy call_int1 (by rfl) T.int (by decide +kernel) (pa_cons (pv 2) pa_nil)) pe_int)) pe_int) pa_nil)) pe_int) (pg_sub (pv 0) pe_int set_list))
        (pss_one (ps_asg (pe_ifExp (pt_cmpR op_ge (pv 2) (pe_op op_pow pe_int pe_int) (nomark _)) (pv 2) pe_int) (pg_sub (pv 0) pe_int set_list)))))) pss_nil)
      (pss_cons (ps_if (pt_cmpR op_ge (pe_ix ix_list (pv 0) pe_int fun _ _ => rfl) (pv 1) (nomark _))
        (pss_cons (ps_set (i := 3) nd rfl (Or.inl rfl) (pe_op op_mod (pe_callTy call_int1 (by rfl) T.int (by decide +kernel) (pa_cons (pe_ix ix_list (pv 0) pe_int fun _ _ => rfl) pa_nil)) (pv 1)))
        (pss_cons (ps_asg (pe_op op_fdivW (pe_ix ix_list (pv 0) pe_int fun _ _ => rfl) (pv 1)) (pg_sub (pv 0) pe_int set_list))
        (pss_one (ps_ret (pv 3))))) pss_nil)
      (pss_cons (ps_asg (pe_op op_add (pe_ix ix_list (pv 0) pe_int fun _ _ => rfl) pe_int) (pg_sub (pv 0) pe_int set_list))
      (C8.pss_cut (ps_set (i := 4) nd rfl (Or.inl rfl) (pe_op op_mod (pe_callTy call_int1 (by rfl) T.int (by decide +kernel) (pa_cons (pe_op op_add (pe_ix ix_list (pv 0) pe_int fun _ _ => rfl)
          (pe_op op_mul (pe_ix ix_list (pv 0) pe_int fun _ _ => rfl) pe_int)) pa_nil)) pe_int))
      (pss_cons (ps_set (i := 5) nd rfl (Or.inl rfl) (pe_op op_mul (pe_op op_mod (pe_callTy call_int1 (by rfl) T.int (by decide +kernel) (pa_cons (pe_op op_mul (pv 4) (pv 4)) pa_nil)) pe_int)
          (pe_op op_add (pe_op op_mod (pe_callTy call_int1 (by rfl) T.int (by decide +kernel) (pa_cons (pv 4) pa_nil)) pe_int) pe_int)))
      (pss_cons (ps_asg (pe_op op_mod (pe_callTy call_int1 (by rfl) T.int (by decide +kernel) (pa_cons (pe_op op_add (pe_op op_add (pv 5) (pe_op op_mul pe_int (pv 4))) pe_int) pa_nil)) pe_int) (pg_sub (pv 0) pe_int set_list))
      (pss_one (ps_ret (pe_op op_mod (pe_callTy call_int1 (by rfl) T.int (by decide +kernel) (pa_cons (pe_op op_add (pe_op op_fdiv (pe_ix ix_list (pv 0) pe_int fun _ _ => rfl) pe_int)
          (pe_op op_mul (pe_op op_mod (pe_callTy call_int1 (by rfl) T.int (by decide +kernel) (pa_cons (pe_ix ix_list (pv 0) pe_int fun _ _ => rfl) pa_nil)) pe_int) pe_int)) pa_nil)) (pv 1))))))))), ?_⟩
    -- behind the first if the source is as it may be
    refine ⟨fun σ H1 => ∃ cell, σ = [some (.ref p), some (.int m), cell, none, none, none] ∧ Src H1 p q cells ∧ But p H H1, ?_, ?_⟩
    · refine ⟨_, rfl, _, _, _, _, rfl, rfl, SqL.of hp, rfl, _, rfl, _, _, rfl, rfl, _, rfl, ?_⟩
      refine ite2 (fun hlt => ?_) (fun _ => iteF ⟨_, rfl, ⟨⟨i, c, seed, n, hp, hi, hc⟩, hq, hfew, hne⟩, But.refl _ _⟩)
      refine ⟨_, rfl, _, _, _, _, rfl, rfl, SqL.of hp, rfl, _, rfl, _, _, _, _, rfl, rfl, SqL.of hp, rfl, q, _, rfl, .inl (SqL.of hq), _, _, rfl, rfl, _, rfl, ?_⟩
      refine ite2 (fun hlt2 => ?_) (fun _ => ⟨_, rfl, ⟨⟨i, c, seed, n, hp, hi, hc⟩, hq, hfew, hne⟩, But.refl _ _⟩)
      have hlt2 : i < ((cells.map V.int).length : Int) := of_decide_eq_true hlt2
      rw [List.length_map] at hlt2
      obtain ⟨j, rfl⟩ := Int.eq_ofNat_of_zero_le hi
      have hj : j < cells.length := by omega
      have hcell : (cells.map V.int)[j]? = some (V.int cells[j]) := by rw [List.getElem?_map, List.getElem?_eq_getElem hj]; rfl
      have hqp : ∀ {H' : Hp}, But p H H' → H' q = some (.lst (cells.map V.int)) := fun b => (b q hne.symm).trans hq
      refine ⟨_, rfl, _, _, _, _, rfl, rfl, SqL.of hp, rfl, _, rfl, _, _, _, _, rfl, rfl, SqL.of hp, rfl, q, _, _, _, rfl, rfl, SqL.of hq, atI_nat hcell, ?_⟩
      -- _law_src[1] = _law_src[1] + 1
      refine ⟨_, rfl, _, _, _, _, rfl, rfl, SqL.of hp, rfl, _, _, rfl, rfl, _, rfl, p, _, _, _, rfl, rfl, hp, rfl, ?_⟩
      -- _law_src[3] = ..
      refine ⟨_, rfl, _, _, _, _, rfl, rfl, SqL.of upd_same, rfl, _, _, rfl, rfl, .inr ⟨by decide, by decide⟩, _, rfl, .inl ⟨_, rfl, _, _, rfl, rfl, (by show (0 : Int) < 2147483323; decide), _, _, rfl, rfl, _, _, rfl, rfl, .inl ⟨_, rfl, _, _, rfl, rfl, (by show (0 : Int) < 2147483549; decide), _, rfl, p, _, _, _, rfl, rfl, upd_same, rfl, ?_⟩⟩⟩
      -- _law_src[2] = ..
      refine ⟨_, rfl, _, _, rfl, rfl, ⟨by decide, by decide, by decide⟩, _, _, rfl, rfl, _, rfl, ?_⟩
      refine ite2 (fun hge => ?_) (fun _ => ?_)
      · refine ⟨_, rfl, _, rfl, p, _, _, _, rfl, rfl, upd_same, rfl, ⟨_, rfl, ⟨⟨_, _, _, _, upd_same, by omega, ?_⟩, ?_, hfew, hne⟩, ?_⟩⟩
        · have z := of_decide_eq_true hge
          exact Int.le_trans (by decide) z
        · exact hqp (But.trans (But.trans But.upd But.upd) But.upd)
        · exact But.trans (But.trans But.upd But.upd) But.upd
      · exact ⟨_, rfl, p, _, _, _, rfl, rfl, upd_same, rfl, ⟨_, rfl, ⟨⟨_, _, _, _, upd_same, by omega, Int.le_refl _⟩, hqp (But.trans (But.trans But.upd But.upd) But.upd), hfew, hne⟩, But.trans (But.trans But.upd But.upd) But.upd⟩⟩
    · rintro σ H1 ⟨cell, rfl, ⟨⟨i, c, seed, n, hp, hi, hc⟩, hq, _, _⟩, hB⟩
      -- if _law_src[2] >= _law_many
      refine ⟨_, rfl, _, _, _, _, rfl, rfl, SqL.of hp, rfl, _, rfl, _, _, rfl, rfl, _, rfl, ?_⟩
      refine ite2 (fun _ => ?_) (fun _ => ?_)
      · refine ⟨_, rfl, _, _, _, _, rfl, rfl, SqL.of hp, rfl, .inl ⟨_, rfl, _, rfl, _, _, rfl, rfl, hm0, ?_⟩⟩
        refine ⟨_, rfl, _, _, _, _, rfl, rfl, SqL.of hp, rfl, _, rfl, _, _, rfl, rfl, wide_div hm0 (b := 100) (by omega) (by decide) (by decide), _, rfl, p, _, _, _, rfl, rfl, hp, rfl, ?_⟩
        exact ⟨_, rfl, k _ _ (Int.emod_nonneg _ (by omega)) (Int.emod_lt_of_pos _ hm0) ⟨⟨_, _, _, _, upd_same, hi, Int.ediv_nonneg hc (Int.le_of_lt hm0)⟩, (upd_ne hne.symm).trans hq, hfew, hne⟩ (But.trans hB But.upd)⟩
      · -- _law_src[4] = _law_src[4] + 1
        refine ⟨_, rfl, _, _, _, _, rfl, rfl, SqL.of hp, rfl, _, _, rfl, rfl, _, rfl, p, _, _, _, rfl, rfl, hp, rfl, ?_⟩
        -- _law_root
        refine ⟨fun σ H2 => ∃ root : Int, 0 ≤ root ∧ root < 2147483629 ∧ σ = [some (.ref p), some (.int m), cell, none, some (.int root), none] ∧ H2 = upd H1 p (.lst (srcL q i c seed (n + 1))), ?_, ?_⟩
        · refine ⟨_, rfl, _, _, _, _, rfl, rfl, SqL.of upd_same, rfl, _, rfl, _, _, _, _, rfl, rfl, SqL.of upd_same, rfl, _, _, rfl, rfl, .inr ⟨by decide, by decide⟩, _, _, rfl, rfl, .inl ⟨_, rfl, _, _, rfl, rfl, (by show (0 : Int) < 2147483629; decide), ?_⟩⟩
          exact ⟨_, Int.emod_nonneg _ (by decide), Int.emod_lt_of_pos _ (by decide), rfl, rfl⟩
        · rintro σ H2 ⟨root, r0, r1, rfl, rfl⟩
          -- _law_grown
          refine ⟨_, rfl, _, rfl, _, _, rfl, rfl, .inl ⟨by omega, by omega⟩, .inl ⟨_, rfl, _, _, rfl, rfl, (by show (0 : Int) < 2147483399; decide), ?_⟩⟩
          refine ⟨_, rfl, .inl ⟨_, rfl, _, _, rfl, rfl, (by show (0 : Int) < 39989; decide), _, _, rfl, rfl, _, _, rfl, rfl, .inl ⟨?_, ?_⟩, ?_⟩⟩
          · exact Int.lt_of_lt_of_le (by decide) (Int.emod_nonneg _ (by decide))
          · exact Int.lt_of_lt_of_le (Int.emod_lt_of_pos _ (by decide)) (by decide)
          -- _law_src[3]
          refine ⟨_, rfl, _, rfl, _, _, rfl, rfl, .inl ⟨by decide, by decide⟩, _, _, rfl, rfl, _, _, rfl, rfl, .inl ⟨_, rfl, _, _, rfl, rfl, (by show (0 : Int) < 2147483549; decide), _, rfl, p, _, _, _, rfl, rfl, upd_same, rfl, ?_⟩⟩
          -- return
          refine ⟨_, rfl, _, _, _, _, rfl, rfl, SqL.of upd_same, rfl, _, _, rfl, rfl, ⟨by decide, by decide⟩, _, rfl, _, _, _, _, rfl, rfl, SqL.of upd_same, rfl, .inl ⟨_, rfl, _, _, rfl, rfl, (by show (0 : Int) < 8521; decide), _, _, rfl, rfl, .inr ⟨by decide, by decide⟩, _, _, rfl, rfl, .inl ⟨_, rfl, _, rfl, _, _, rfl, rfl, hm0, ?_⟩⟩⟩
          exact k _ _ (Int.emod_nonneg _ (by omega)) (Int.emod_lt_of_pos _ hm0) ⟨⟨_, _, _, _, upd_same, hi, hc⟩, by rw [upd_ne hne.symm, upd_ne hne.symm]; exact hq, hfew, hne⟩ (But.trans hB (But.trans But.upd But.upd))
theorem ok_source {f : Addr} {fd : FuncData} (F : Fun K "_law_source" "_law_source" sSource f fd) (T : Nm mg) : FnOk P w K mg base CX0 1 f fd ["_law_script"] (spSource K) := by
  refine F.ok scSource (fun vs H Q E h => ?_) (fun cdv A outer s H vs Q E hr h => ?_)
  · obtain ⟨a, ns, rfl, _⟩ := h
    rfl
  · obtain ⟨a, ns, rfl, hS, hl, k⟩ := h
    have nd := scSource.nd
    have cut : cutV (ns.map V.int) none (some 63) = ns.map V.int := by
      unfold cutV HT.sIx
      rw [List.drop_zero, List.length_map]
      refine List.take_of_length_le ?_
      rw [List.length_map]
      show ns.length ≤ min 63 ns.length - 0
      omega
    refine ⟨_, pss_cons (ps_set (i := 1) nd rfl (Or.inl rfl) pe_int)
      (pss_cons (ps_for PassesOwn.never rfl (pi_list (pe_slice sl_list (pv 0) po_none (po_some pe_int))) (pg_name (i := 2) nd rfl (Or.inl rfl))
        (pss_one (ps_set (i := 1) nd rfl (Or.inl rfl) (pe_op op_mod (pe_callTy call_int1 (by rfl) T.int (by decide +kernel) (pa_cons (pe_op op_add (pe_op op_add (pe_op op_mul (pv 1) pe_int)
            (pe_op op_mod (pe_callTy call_int1 (by rfl) T.int (by decide +kernel) (pa_cons (pv 2) pa_nil)) pe_int)) pe_int) pa_nil)) pe_int))))
      (pss_one (ps_ret (pe_lst (pa_cons (pe_callTy call_list_of (by rfl) T.list (by decide +kernel) (pa_cons (pe_slice sl_list (pv 0) po_none (po_some pe_int)) pa_nil))
        (pa_cons pe_int (pa_cons pe_int (pa_cons (pv 1) (pa_cons pe_int pa_nil))))))))), ?_⟩
    refine ⟨_, rfl, _, rfl, a, _, rfl, hS, fun u hu => ?_⟩
    rw [cut]
    have sm : Same H (upd H u (.lst (ns.map V.int))) := fun b o e => by rw [upd_ne (ne_of_none e hu)]; exact e
    refine ⟨u, rfl, ⟨_, SqL.of upd_same⟩, for_list (K := K) (a := u) (xs := ns.map V.int) (fun i σ H2 => ∃ (sd : Int) (v : Option V), σ = [some (.ref a), some (.int sd), v] ∧ H2 = upd H u (.lst (ns.map V.int)))
      ⟨_, _, rfl, rfl⟩ (fun i σ H2 _ ⟨_, _, _, e⟩ => e ▸ SqL.of upd_same) ?_ ?_⟩
    · rintro i y σ H2 hi ⟨sd, v, rfl, rfl⟩
      obtain ⟨z, rfl⟩ : ∃ z, y = V.int z := by
        rw [List.getElem?_map] at hi
        obtain ⟨z, _, e⟩ := Option.map_eq_some_iff.mp hi
        exact ⟨z, e.symm⟩
      exact ⟨_, rfl, _, _, rfl, rfl, .inr ⟨by decide, by decide⟩, _, rfl, .inl ⟨_, rfl, _, _, rfl, rfl, (by show (0 : Int) < 2147483353; decide), _, _, rfl, rfl, _, _, rfl, rfl, .inl ⟨_, rfl, _, _, rfl, rfl, (by show (0 : Int) < 2147483587; decide), _, _, rfl, rfl⟩⟩⟩
    · rintro σ H2 ⟨sd, v, rfl, rfl⟩
      refine ⟨_, rfl, _, rfl, a, _, rfl, sm.seq hS, fun u2 hu2 => ?_⟩
      rw [cut]
      refine ⟨u2, _, rfl, .inl (SqL.of upd_same), fun u3 hu3 => ⟨_, rfl, by show 5 ≤ sizeLine; decide, fun p hp => ?_⟩⟩
      have n3 : u3 ≠ p := fun z => by rw [z, upd_same] at hp; cases hp
      have sm2 : Same H (upd (upd (upd H u (.lst (ns.map V.int))) u2 (.lst (ns.map V.int))) u3 (.lst (ns.map V.int))) := fun b o e => by
        rw [upd_ne (ne_of_none (by rw [upd_ne (ne_of_none (sm b o e) hu2)]; exact sm b o e) hu3), upd_ne (ne_of_none (sm b o e) hu2)]
        exact sm b o e
      have sm3 : Same H (upd (upd (upd H u (.lst (ns.map V.int))) u2 (.lst (ns.map V.int))) u3 (.lst (ns.map V.int))) := sm2
      refine k p u3 _ (sm2.free hp) ?_ (fun b o e => ?_) ⟨⟨0, 0, sd, 0, upd_same, Int.le_refl _, Int.le_refl _⟩, ?_, hl, n3.symm⟩
      · have e1 : Same H (upd (upd H u (.lst (ns.map V.int))) u2 (.lst (ns.map V.int))) := fun b o e => by
          rw [upd_ne (ne_of_none (sm b o e) hu2)]
          exact sm b o e
        exact e1.free hu3
      · rw [upd_ne (ne_of_none (sm2 b o e) hp)]
        exact sm2 b o e
      · rw [upd_ne n3, upd_same]
/-! ### one of some things; are two data shown alike -/
def spOf (K : PySem.W.Frag) : Sp := fun vs H Q _ => ∃ (p q : Addr) (cells : List Int) (sv : V), vs = [.ref p, sv] ∧ Src H p q cells ∧
  ((∃ (a : Addr) (xs : List V), sv = .ref a ∧ (∀ H', But p H H' → SqL K H' a xs ∨ SqT K H' a xs) ∧ 0 < xs.length ∧ xs.length < 1000000 ∧
      ∀ (i : Nat) (x : V) (H' : Hp), xs[i]? = some x → Src H' p q cells → But p H H' → Q x H') ∨
    ∃ z : Str, sv = .str z ∧ 0 < z.length ∧ z.length < 1000000 ∧ ∀ (c : Nat) (H' : Hp), c ∈ z.cps.toList → Src H' p q cells → But p H H' → Q (.str ⟨#[c]⟩) H')
theorem scOf : FnScope ["_law_src", "_law_some"] ["_law_src", "_law_some"] (defScope sOf) := ⟨rfl, rfl, rfl, by decide +kernel, rfl, by decide +kernel, by decide +kernel⟩
theorem big : (1000000 : Nat) ≤ sizeLine := by decide
theorem ok_of {f fD : Addr} {fd fdD : FuncData} (F : Fun K "_law_of" "_law_of" sOf f fd) (T : Nm mg) (FD : Fun K "_law_draw" "_law_draw" sDraw fD fdD) (mD : mg "_law_draw" = some (.ref fD)) (bD : Binds K fdD ["_law_src", "_law_many"] []) :
    FnOk P w K mg base CX0 2 f fd ["_law_src", "_law_some"] (spOf K) := by
  have GD : FnOk P w K mg base CX0 1 fD fdD ["_law_src", "_law_many"] spDraw := ok_draw FD T
  refine F.ok scOf (fun vs H Q E h => ?_) (fun cdv A outer s H vs Q E hr h => ?_)
  · obtain ⟨p, q, cells, sv, rfl, _⟩ := h
    rfl
  · obtain ⟨p, q, cells, sv, rfl, hS, h⟩ := h
    refine ⟨_, pss_one (ps_ret (pe_ix ix_seq (pv 1) (pe_call GD hr (by rfl) mD FD.kp bD .nil pass0 (pa_cons (pv 0) (pa_cons (pe_callB call_len (by rfl) T.len PySem.boot_len (pa_cons (pv 1) pa_nil)) pa_nil))) fun _ _ => rfl)), ?_⟩
    rcases h with ⟨a, xs, rfl, hx, h0, h1, k⟩ | ⟨z, rfl, h0, h1, k⟩
    · refine ⟨_, rfl, _, rfl, _, rfl, _, xs.length, rfl, ?_, p, q, cells, _, rfl, hS, by omega, by omega, fun r H' r0 r1 S' B' => ?_⟩
      · rcases hx H (But.refl _ _) with z | z
        · exact .inl ⟨_, z, rfl⟩
        · exact .inr ⟨_, z, rfl⟩
      · obtain ⟨j, rfl⟩ := Int.eq_ofNat_of_zero_le r0
        have hj : j < xs.length := by omega
        have e : xs[j]? = some xs[j] := List.getElem?_eq_getElem hj
        rcases hx H' B' with z | z
        · exact .inl ⟨a, xs, _, _, rfl, rfl, z, atI_nat e, k j _ H' e S' B'⟩
        · exact .inr (.inl ⟨a, xs, _, _, rfl, rfl, z, atI_nat e, k j _ H' e S' B'⟩)
    · refine ⟨_, rfl, _, rfl, _, rfl, _, z.length, rfl, ⟨Nat.le_trans (Nat.le_of_lt h1) big, rfl⟩, p, q, cells, _, rfl, hS, by omega, by omega, fun r H' r0 r1 S' B' => ?_⟩
      obtain ⟨j, rfl⟩ := Int.eq_ofNat_of_zero_le r0
      have hl : z.cps.toList.length = z.length := by simp [Str.length]
      have hj : j < z.cps.toList.length := by omega
      have e : z.cps.toList[j]? = some z.cps.toList[j] := List.getElem?_eq_getElem hj
      exact .inr (.inr ⟨z, _, _, rfl, rfl, Nat.le_trans (Nat.le_of_lt h1) big, atI_nat e, k _ H' (List.getElem_mem hj) S' B'⟩)
def spSame (K : PySem.W.Frag) : Sp := fun vs H Q _ => ∃ (x y : V) (d e : PyData), vs = [x, y] ∧ Dp K H x d ∧ Dp K H y e ∧ Sm d ∧ Sm e ∧ Q (.bl (decide (d.shown = e.shown))) H
theorem scSame : FnScope ["_law_found", "_law_due"] ["_law_found", "_law_due"] (defScope sSame) := ⟨rfl, rfl, rfl, by decide +kernel, rfl, by decide +kernel, by decide +kernel⟩
theorem ok_same {f : Addr} {fd : FuncData} (F : Fun K "_law_same" "_law_same" sSame f fd) (T : Nm mg) : FnG P w K mg base CX0 1 f fd ["_law_found", "_law_due"] (spSame K) := by
  refine okG F scSame (fun vs H Q E h => ?_) (fun cdv A outer s H vs Q E hG hr h => ?_)
  · obtain ⟨x, y, d, e, rfl, _⟩ := h
    rfl
  · obtain ⟨x, y, d, e, rfl, hx, hy, sd, se, k⟩ := h
    refine ⟨_, pss_one (ps_ret (pe_cmpR op_eq (pe_callB (call_repr hG hr.units) (by rfl) T.repr (by decide +kernel) (pa_cons (pv 0) pa_nil)) (pe_callB (call_repr hG hr.units) (by rfl) T.repr (by decide +kernel) (pa_cons (pv 1) pa_nil)) (nomark _))), ?_⟩
    refine ⟨_, rfl, _, d, rfl, hx, sd, _, rfl, _, e, rfl, hy, se, rfl, ?_⟩
    have q : decide (V.str d.shown = V.str e.shown) = decide (d.shown = e.shown) := by
      by_cases z : d.shown = e.shown
      · rw [z, decide_eq_true rfl, decide_eq_true rfl]
      · rw [decide_eq_false z, decide_eq_false fun y => z (V.str.inj y)]
    show Q (.bl (decide (V.str d.shown = V.str e.shown))) H
    rw [q]
    exact k
end
end Lw

set_option maxRecDepth 100000
namespace Lw
open PySem PySem.Spec PyProof.Rows L2 VG
open L2H (RoomH)
section
variable {P : Program} {w : World} {K : PySem.W.Frag} {mg : Str → Option Value} {base : Heap}
theorem scFields : FnScope ["_law_e"] ["_law_e"] (defScope s__law_fields) := ⟨rfl, rfl, rfl, by decide +kernel, rfl, by decide +kernel, by decide +kernel⟩
theorem ok_fields {f : Addr} {fd : FuncData} (F : Fun K "_law_fields" "_law_fields" s__law_fields f fd) : FnE P w K mg base CX0 1 f fd ["_law_e"] (spFields K) := by
  refine okE F scFields (fun p vs H Q E h => ?_) (fun cdv A outer s H vs Q E p hr h => ?_)
  · obtain ⟨rfl, _⟩ := h
    rfl
  · obtain ⟨rfl, nm, fs, ys, c, el, q⟩ := h
    have hp : p ∈ (L2H.cxH CX0 P w K mg base ["_law_e"] "_law_fields" (defScope s__law_fields) f cdv A outer s H E p).nox.pn := List.mem_cons_self
    have hu : (L2H.cxH CX0 P w K mg base ["_law_e"] "_law_fields" (defScope s__law_fields) f cdv A outer s H E p).nox.A.units + 65 < cLine := by
      have z := hr.un
      show (A.deeper _).units + 65 < cLine
      omega
    refine ⟨_, pss_cons (ps_inRet (i := 0) (ns := ["given"]) (l := ["InvalidRatio", "InvalidNumber", "InvalidName", "InvalidLayer", "InvalidPlace", "InvalidPoint", "InvalidForm", "InvalidLimit"]) hp hu (by decide) (by decide) (by decide +kernel) (pv 0) (pa_cons pe_str (pa_cons pe_str (pa_cons pe_str (pa_cons pe_str (pa_cons pe_str (pa_cons pe_str (pa_cons pe_str (pa_cons pe_str pa_nil)))))))) (pa_flds hp (pv 0) (by decide) pa_flds0))
      (pss_cons (ps_inRet (i := 0) (ns := ["at"]) (l := ["InvalidRow", "InvalidFact", "InvalidCommand"]) hp hu (by decide) (by decide) (by decide +kernel) (pv 0) (pa_cons pe_str (pa_cons pe_str (pa_cons pe_str pa_nil))) (pa_flds hp (pv 0) (by decide) pa_flds0))
      (pss_cons (ps_inRet (i := 0) (ns := ["path"]) (l := ["InvalidStep", "UnlikeEnds"]) hp hu (by decide) (by decide) (by decide +kernel) (pv 0) (pa_cons pe_str (pa_cons pe_str pa_nil)) (pa_flds hp (pv 0) (by decide) pa_flds0))
      (pss_cons (ps_inRet (i := 0) (ns := ["name"]) (l := ["DuplicateName", "UnknownName"]) hp hu (by decide) (by decide) (by decide +kernel) (pv 0) (pa_cons pe_str (pa_cons pe_str pa_nil)) (pa_flds hp (pv 0) (by decide) pa_flds0))
      (pss_cons (ps_inRet (i := 0) (ns := ["word"]) (l := ["InvalidText", "UnknownScript"]) hp hu (by decide) (by decide) (by decide +kernel) (pv 0) (pa_cons pe_str (pa_cons pe_str pa_nil)) (pa_flds hp (pv 0) (by decide) pa_flds0))
      (pss_cons (ps_eqRet (i := 0) (ns := ["layer"]) (z := "InvalidTable") hp (by decide) (pv 0) (pa_flds hp (pv 0) (by decide) pa_flds0))
      (pss_cons (ps_eqRet (i := 0) (ns := ["layer", "start", "goal"]) (z := "InvalidWay") hp (by decide) (pv 0) (pa_flds hp (pv 0) (by decide) (pa_flds hp (pv 0) (by decide) (pa_flds hp (pv 0) (by decide) pa_flds0))))
      (pss_cons (ps_eqRet (i := 0) (ns := ["limit"]) (z := "Full") hp (by decide) (pv 0) (pa_flds hp (pv 0) (by decide) pa_flds0))
      (pss_cons (ps_eqRet (i := 0) (ns := ["line"]) (z := "InvalidPage") hp (by decide) (pv 0) (pa_flds hp (pv 0) (by decide) pa_flds0))
      (pss_one (ps_endRet (i := 0) (ns := ["subject", "most"]) (z := "TooMany") hp (by decide) (pv 0) (pa_flds hp (pv 0) (by decide) (pa_flds hp (pv 0) (by decide) pa_flds0)))))))))))), ?_⟩
    unfold VG.fieldsOf at el
    refine ⟨rfl, nm, fs, c, fun e => ⟨ys, by rw [if_pos e] at el; exact el, q⟩, fun e H1 s1 => ?_⟩
    rw [if_neg (by rw [e]; exact Bool.false_ne_true)] at el
    refine ⟨rfl, nm, fs, c.same s1, fun e => ⟨ys, by rw [if_pos e] at el; exact el, fun T H' z => q T H' (s1.trans z)⟩, fun e H2 s2 => ?_⟩
    rw [if_neg (by rw [e]; exact Bool.false_ne_true)] at el
    replace s2 := s1.trans s2
    refine ⟨rfl, nm, fs, c.same s2, fun e => ⟨ys, by rw [if_pos e] at el; exact el, fun T H' z => q T H' (s2.trans z)⟩, fun e H3 s3 => ?_⟩
    rw [if_neg (by rw [e]; exact Bool.false_ne_true)] at el
    replace s3 := s2.trans s3
    refine ⟨rfl, nm, fs, c.same s3, fun e => ⟨ys, by rw [if_pos e] at el; exact el, fun T H' z => q T H' (s3.trans z)⟩, fun e H4 s4 => ?_⟩
    rw [if_neg (by rw [e]; exact Bool.false_ne_true)] at el
    replace s4 := s3.trans s4
    refine ⟨rfl, nm, fs, c.same s4, fun e => ⟨ys, by rw [if_pos e] at el; exact el, fun T H' z => q T H' (s4.trans z)⟩, fun e H5 s5 => ?_⟩
    rw [if_neg (by rw [e]; exact Bool.false_ne_true)] at el
    replace s5 := s4.trans s5
    refine ⟨rfl, nm, fs, c.same s5, fun e => ⟨ys, by rw [if_pos e] at el; exact el, fun T H' z => q T H' (s5.trans z)⟩, fun e H6 s6 => ?_⟩
    rw [if_neg (by rw [show decide (nm = "InvalidTable") = false from e]; exact Bool.false_ne_true)] at el
    replace s6 := s5.trans s6
    refine ⟨rfl, nm, fs, c.same s6, fun e => ⟨ys, by rw [if_pos e] at el; exact el, fun T H' z => q T H' (s6.trans z)⟩, fun e H7 s7 => ?_⟩
    rw [if_neg (by rw [show decide (nm = "InvalidWay") = false from e]; exact Bool.false_ne_true)] at el
    replace s7 := s6.trans s7
    refine ⟨rfl, nm, fs, c.same s7, fun e => ⟨ys, by rw [if_pos e] at el; exact el, fun T H' z => q T H' (s7.trans z)⟩, fun e H8 s8 => ?_⟩
    rw [if_neg (by rw [show decide (nm = "Full") = false from e]; exact Bool.false_ne_true)] at el
    replace s8 := s7.trans s8
    refine ⟨rfl, nm, fs, c.same s8, fun e => ⟨ys, by rw [if_pos e] at el; exact el, fun T H' z => q T H' (s8.trans z)⟩, fun e H9 s9 => ?_⟩
    rw [if_neg (by rw [show decide (nm = "InvalidPage") = false from e]; exact Bool.false_ne_true)] at el
    replace s9 := s8.trans s9
    exact ⟨rfl, nm, fs, c.same s9, ys, el, fun T H' z => q T H' (s9.trans z)⟩
end
end Lw

set_option maxRecDepth 100000
namespace Lw
open PySem PySem.Spec PyProof.Rows L2 VG
section
variable {P : Program} {w : World} {K : PySem.W.Frag} {mg : Str → Option Value} {base : Heap}
/-- what copied asks of the names of the top -/
structure NmC (mg : Str → Option Value) : Prop where
  isi : mg "isinstance" = none
  list : mg "list" = none
  tup : mg "tuple" = none
theorem scCopied : FnScope ["value", "item"] ["value"] (defScope s_copied) := ⟨rfl, rfl, rfl, by decide +kernel, rfl, by decide +kernel, by decide +kernel⟩
theorem copied_step {n k : Nat} {f : Addr} {fd : FuncData} (F : Fun K "copied" "copied" s_copied f fd) (T : NmC mg) (mC : mg "copied" = some (.ref f)) (bC : Binds K fd ["value"] []) (G : FnOk P w K mg base CX0 k f fd ["value"] (spPrev K n)) :
    FnOk P w K mg base CX0 (k + 1) f fd ["value"] (spCopy K n) := by
  refine F.ok scCopied (fun vs H Q E h => ?_) (fun cdv A outer s H vs Q E hr h => ?_)
  · obtain ⟨x, d, rfl, _⟩ := h
    rfl
  · obtain ⟨x, d, rfl, hx, hf, q⟩ := h
    have nd := scCopied.nd
    refine ⟨_, pss_cons (ps_if (pt_val (pe_callB call_isi (by rfl) T.isi (by decide +kernel) (pa_cons (pv 0) (pa_cons (pe_bltn (v := .ty "list") (by rfl) T.list (by decide +kernel) rfl) pa_nil))))
        (pss_one (ps_ret (pe_lc (own := [("item", 1)]) (g := gName 1) (tt := tYes) rfl nd (pi_list (pv 0)) (blkOk_by (own := [("item", 1)]) (N := ["value", "item"]) (sc := defScope s_copied) (by decide +kernel)) (fun _ _ _ _ _ => pg_name (i := 1) nd rfl (Or.inl rfl)) (fun _ _ _ _ _ => pts_nil)
          (fun _ _ _ _ _ => pe_call G hr (by rfl) mC F.kp bC .nil pass0 (pa_cons (pv 1) pa_nil))))) pss_nil)
      (pss_cons (ps_if (pt_val (pe_callB call_isi (by rfl) T.isi (by decide +kernel) (pa_cons (pv 0) (pa_cons (pe_bltn (v := .ty "tuple") (by rfl) T.tup (by decide +kernel) rfl) pa_nil))))
        (pss_one (ps_ret (pe_callTy call_tuple_of (by rfl) T.tup (by decide +kernel) (pa_cons (pe_lc (own := [("item", 1)]) (g := gName 1) (tt := tYes) rfl nd (pi_tup (pv 0)) (blkOk_by (own := [("item", 1)]) (N := ["value", "item"]) (sc := defScope s_copied) (by decide +kernel)) (fun _ _ _ _ _ => pg_name (i := 1) nd rfl (Or.inl rfl)) (fun _ _ _ _ _ => pts_nil)
          (fun _ _ _ _ _ => pe_call G hr (by rfl) mC F.kp bC .nil pass0 (pa_cons (pv 1) pa_nil))) pa_nil)))) pss_nil)
      (pss_one (ps_ret (pv 0)))), ?_⟩
    cases hx with
    | non => exact ⟨_, rfl, _, _, _, _, false, rfl, .ty "list", .base .non, kit_ty (by decide +kernel), _, rfl, iteF ⟨_, rfl, _, _, _, _, false, rfl, .ty "tuple", .base .non, kit_ty (by decide +kernel), _, rfl, iteF ⟨_, rfl, q _ H (Same.refl H) .non⟩⟩⟩
    | bl b => exact ⟨_, rfl, _, _, _, _, false, rfl, .ty "list", .base (.bl b), kit_ty (by decide +kernel), _, rfl, iteF ⟨_, rfl, _, _, _, _, false, rfl, .ty "tuple", .base (.bl b), kit_ty (by decide +kernel), _, rfl, iteF ⟨_, rfl, q _ H (Same.refl H) (.bl b)⟩⟩⟩
    | int i => exact ⟨_, rfl, _, _, _, _, false, rfl, .ty "list", .base (.int i), kit_ty (by decide +kernel), _, rfl, iteF ⟨_, rfl, _, _, _, _, false, rfl, .ty "tuple", .base (.int i), kit_ty (by decide +kernel), _, rfl, iteF ⟨_, rfl, q _ H (Same.refl H) (.int i)⟩⟩⟩
    | str z => exact ⟨_, rfl, _, _, _, _, false, rfl, .ty "list", .base (.str z), kit_ty (by decide +kernel), _, rfl, iteF ⟨_, rfl, _, _, _, _, false, rfl, .ty "tuple", .base (.str z), kit_ty (by decide +kernel), _, rfl, iteF ⟨_, rfl, q _ H (Same.refl H) (.str z)⟩⟩⟩
    | @lst a xs ds hs hd =>
      refine ⟨_, rfl, _, _, _, _, true, rfl, .ty "list", tyx_list hs, kit_ty (by decide +kernel), _, rfl, iteT ?_⟩
      obtain ⟨m, rfl, hw, hl⟩ : ∃ m, n = m + 1 ∧ ds.length ≤ 1000 ∧ ∀ d ∈ ds, fit m d = true := by
        cases n with
        | zero => cases hf
        | succ m =>
          obtain ⟨h1, h2⟩ := Bool.and_eq_true_iff.mp (show (decide (ds.length ≤ 1000) && ds.all (fit m)) = true from hf)
          exact ⟨m, rfl, of_decide_eq_true h1, List.all_eq_true.mp h2⟩
      refine ⟨_, rfl, a, rfl, ⟨_, hs⟩, fun D hD => lc_list (K := K) (a := a) (xs := xs) (Copying K H D ds) (Copying.start hD) (fun i G _ c => c.same.seq hs) (fun i y G hy c => ?_) (fun G c => ?_)⟩
      · obtain ⟨e, he, hye⟩ := DpAll.at' hd hy
        refine ⟨rfl, y, rfl, y, e, rfl, Dp.same c.same e y hye, hl e (List.mem_of_getElem? he), fun y' G' sm hn => ?_⟩
        obtain ⟨acc, e1, e2, e3⟩ := c.more hD he sm hn
        have lt : i < ds.length := (List.getElem?_eq_some_iff.mp he).1
        exact ⟨acc, e1, by rw [e2]; exact Nat.lt_of_lt_of_le (Nat.lt_of_lt_of_le lt hw) (by decide), e3⟩
      · rw [DpAll.len hd] at c
        obtain ⟨acc, e1, e2⟩ := c.all hD
        exact q _ G c.same (.lst (SqL.of (by rw [newer_at hD]; exact e1)) e2)
    | @tup a xs ds hs hd =>
      refine ⟨_, rfl, _, _, _, _, false, rfl, .ty "list", tyx_tup hs, kit_ty (by decide +kernel), _, rfl, iteF ⟨_, rfl, _, _, _, _, true, rfl, .ty "tuple", tyx_tup hs, kit_ty (by decide +kernel), _, rfl, iteT ?_⟩⟩
      obtain ⟨m, rfl, hw, hl⟩ : ∃ m, n = m + 1 ∧ ds.length ≤ 1000 ∧ ∀ d ∈ ds, fit m d = true := by
        cases n with
        | zero => cases hf
        | succ m =>
          obtain ⟨h1, h2⟩ := Bool.and_eq_true_iff.mp (show (decide (ds.length ≤ 1000) && ds.all (fit m)) = true from hf)
          exact ⟨m, rfl, of_decide_eq_true h1, List.all_eq_true.mp h2⟩
      refine ⟨_, rfl, a, rfl, ⟨_, hs⟩, fun D hD => lc_tup (K := K) (a := a) (xs := xs) (Copying K H D ds) (Copying.start hD) (fun i G _ c => Same.tup c.same hs) (fun i y G hy c => ?_) (fun G c => ?_)⟩
      · obtain ⟨e, he, hye⟩ := DpAll.at' hd hy
        refine ⟨rfl, y, rfl, y, e, rfl, Dp.same c.same e y hye, hl e (List.mem_of_getElem? he), fun y' G' sm hn => ?_⟩
        obtain ⟨acc, e1, e2, e3⟩ := c.more hD he sm hn
        have lt : i < ds.length := (List.getElem?_eq_some_iff.mp he).1
        exact ⟨acc, e1, by rw [e2]; exact Nat.lt_of_lt_of_le (Nat.lt_of_lt_of_le lt hw) (by decide), e3⟩
      · rw [DpAll.len hd] at c
        obtain ⟨acc, e1, e2⟩ := c.all hD
        refine ⟨D, acc, rfl, .inl ⟨SqL.of e1, fun l hl => ?_⟩⟩
        have sm := same_upd (o := .tup acc) hl
        have hl0 : H l = none := c.same.free hl
        refine q _ _ (c.same.trans sm) (.tup (SqT.of (by rw [newer_at hl0]; exact upd_same)) (DpAll.same (newer_mono (fun b z => z) fun b z o e => sm b o e) _ _ e2))
/-- copied, for data of any depth -/
theorem ok_copied {f : Addr} {fd : FuncData} (F : Fun K "copied" "copied" s_copied f fd) (T : NmC mg) (mC : mg "copied" = some (.ref f)) (bC : Binds K fd ["value"] []) : ∀ n, FnOk P w K mg base CX0 (n + 1) f fd ["value"] (spCopy K n)
  | 0 => copied_step F T mC bC ⟨fun _ _ _ _ h => False.elim h, fun _ _ _ _ _ _ _ _ _ _ _ _ _ h => False.elim h⟩
  | n + 1 => copied_step F T mC bC (ok_copied F T mC bC n)
end
end Lw

set_option maxRecDepth 100000
namespace Lw
open PySem PySem.Spec PyProof.Rows L2 VG
/-! ### the program's ratios -/
def whole : PyData → Bool
  | .int _ => true
  | _ => false
theorem whole_int {d : PyData} (h : whole d = true) : ∃ i, d = .int i := by
  cases d <;> first | exact ⟨_, rfl⟩ | cases h
def intOf : PyData → Int
  | .int i => i
  | _ => 0
def isRat : PyData → Bool
  | .tuple [d1, d2] => whole d1 && (whole d2 && (decide (1 ≤ intOf d2) && decide (Nat.gcd (intOf d1).natAbs (intOf d2).natAbs = 1)))
  | _ => false
/-- top and bottom in lowest terms -/
def low (t b : Int) : Int × Int := (t / (Nat.gcd t.natAbs b.natAbs : Int), b / (Nat.gcd t.natAbs b.natAbs : Int))
structure NmW (mg : Str → Option Value) : Prop where
  isi : mg "isinstance" = none
  int : mg "int" = none
  bool : mg "bool" = none
section
variable {P : Program} {w : World} {K : PySem.W.Frag} {mg : Str → Option Value} {base : Heap}
theorem two_of {H : Hp} {xs : List V} {ds : List PyData} (hd : DpAll K H xs ds) (h : xs.length = 2) : ∃ y1 y2 d1 d2, xs = [y1, y2] ∧ ds = [d1, d2] ∧ Dp K H y1 d1 ∧ Dp K H y2 d2 := by
  cases hd with
  | nil => cases h
  | cons h1 t =>
    cases t with
    | nil => cases h
    | cons h2 t =>
      cases t with
      | nil => exact ⟨_, _, _, _, rfl, rfl, h1, h2⟩
      | cons h3 t =>
        simp only [List.length_cons] at h
        omega
def spWhole (K : PySem.W.Frag) : Sp := fun vs H Q _ => ∃ (x : V) (d : PyData), vs = [x] ∧ Dp K H x d ∧ Q (.bl (whole d)) H
theorem scWhole : FnScope ["value"] ["value"] (defScope s__is_whole) := ⟨rfl, rfl, rfl, by decide +kernel, rfl, by decide +kernel, by decide +kernel⟩
theorem ok_whole {f : Addr} {fd : FuncData} (F : Fun K "_is_whole" "_is_whole" s__is_whole f fd) (T : NmW mg) : FnOk P w K mg base CX0 1 f fd ["value"] (spWhole K) := by
  refine F.ok scWhole (fun vs H Q E h => ?_) (fun cdv A outer s H vs Q E hr h => ?_)
  · obtain ⟨x, d, rfl, _⟩ := h
    rfl
  · obtain ⟨x, d, rfl, hx, q⟩ := h
    refine ⟨_, pss_one (ps_ret (pe_and (pe_callB call_isi (by rfl) T.isi (by decide +kernel) (pa_cons (pv 0) (pa_cons (pe_bltn (v := .ty "int") (by rfl) T.int (by decide +kernel) rfl) pa_nil)))
      (pe_one (pe_not (pe_callB call_isi (by rfl) T.isi (by decide +kernel) (pa_cons (pv 0) (pa_cons (pe_bltn (v := .ty "bool") (by rfl) T.bool (by decide +kernel) rfl) pa_nil))))))), ?_⟩
    cases hx with
    | non => exact ⟨_, rfl, _, _, _, _, false, rfl, .ty "int", .base .non, kit_ty (by decide +kernel), _, rfl, iteF q⟩
    | bl b => exact ⟨_, rfl, _, _, _, _, true, rfl, .ty "int", .base (.bl b), kit_ty (by decide +kernel), _, rfl, iteT ⟨_, rfl, _, _, _, _, true, rfl, .ty "bool", .base (.bl b), kit_ty (by decide +kernel), _, rfl, q⟩⟩
    | int i => exact ⟨_, rfl, _, _, _, _, true, rfl, .ty "int", .base (.int i), kit_ty (by decide +kernel), _, rfl, iteT ⟨_, rfl, _, _, _, _, false, rfl, .ty "bool", .base (.int i), kit_ty (by decide +kernel), _, rfl, q⟩⟩
    | str z => exact ⟨_, rfl, _, _, _, _, false, rfl, .ty "int", .base (.str z), kit_ty (by decide +kernel), _, rfl, iteF q⟩
    | lst hs hd => exact ⟨_, rfl, _, _, _, _, false, rfl, .ty "int", tyx_list hs, kit_ty (by decide +kernel), _, rfl, iteF q⟩
    | tup hs hd => exact ⟨_, rfl, _, _, _, _, false, rfl, .ty "int", tyx_tup hs, kit_ty (by decide +kernel), _, rfl, iteF q⟩
def spIsRat (K : PySem.W.Frag) : Sp := fun vs H Q _ => ∃ (x : V) (d : PyData), vs = [x] ∧ Dp K H x d ∧ Q (.bl (isRat d)) H
theorem scIsRat : FnScope ["value", "top", "bottom"] ["value"] (defScope s_is_ratio) := ⟨rfl, rfl, rfl, by decide +kernel, rfl, by decide +kernel, by decide +kernel⟩
structure NmR (mg : Str → Option Value) : Prop where
  w : NmW mg
  tup : mg "tuple" = none
  len : mg "len" = none
  gcd : mg "gcd" = some (.builtin "math.gcd")
theorem ok_isRat {f fW : Addr} {fd fdW : FuncData} (F : Fun K "is_ratio" "is_ratio" s_is_ratio f fd) (FW : Fun K "_is_whole" "_is_whole" s__is_whole fW fdW) (T : NmR mg) (mW : mg "_is_whole" = some (.ref fW)) (bW : Binds K fdW ["value"] []) :
    FnOk P w K mg base CX0 2 f fd ["value"] (spIsRat K) := by
  refine F.ok scIsRat (fun vs H Q E h => ?_) (fun cdv A outer s H vs Q E hr h => ?_)
  · obtain ⟨x, d, rfl, _⟩ := h
    rfl
  · obtain ⟨x, d, rfl, hx, q⟩ := h
    have nd := scIsRat.nd
    have GW := ok_whole (P := P) (w := w) (base := base) FW T.w
    refine ⟨_, pss_cons (ps_if (PW.pt (pw_or (pt_not (pt_val (pe_callB call_isi (by rfl) T.w.isi (by decide +kernel) (pa_cons (pv 0) (pa_cons (pe_bltn (v := .ty "tuple") (by rfl) T.tup (by decide +kernel) rfl) pa_nil)))))
        (pw_or1 (pt_cmpR op_ne (pe_callB call_len_seq (by rfl) T.len PySem.boot_len (pa_cons (pv 0) pa_nil)) pe_int (nomark _))))) (pss_one (ps_ret pe_bl)) pss_nil)
      (pss_cons (ps_asg (pv 0) (pg_tup (by rfl) (pgs_cons (pg_name (i := 1) nd rfl (Or.inl rfl)) (pgs_cons (pg_name (i := 2) nd rfl (Or.inl rfl)) pgs_nil))))
      (pss_one (ps_ret (pe_and (pe_call GW hr (by rfl) mW FW.kp bW .nil pass0 (pa_cons (pv 1) pa_nil)) (pe_and (pe_call GW hr (by rfl) mW FW.kp bW .nil pass0 (pa_cons (pv 2) pa_nil)) (pe_and (pe_cmpR op_ge (pv 2) pe_int (nomark _))
        (pe_one (pe_cmpR op_eq (pe_callBfun cr_gcd (by rfl) T.gcd (pa_cons (pv 1) (pa_cons (pv 2) pa_nil))) pe_int (nomark _))))))))), ?_⟩
    cases hx with
    | non => exact ⟨_, rfl, _, _, _, _, false, rfl, .ty "tuple", .base .non, kit_ty (by decide +kernel), _, rfl, iteT (iteT q)⟩
    | bl b => exact ⟨_, rfl, _, _, _, _, false, rfl, .ty "tuple", .base (.bl b), kit_ty (by decide +kernel), _, rfl, iteT (iteT q)⟩
    | int i => exact ⟨_, rfl, _, _, _, _, false, rfl, .ty "tuple", .base (.int i), kit_ty (by decide +kernel), _, rfl, iteT (iteT q)⟩
    | str z => exact ⟨_, rfl, _, _, _, _, false, rfl, .ty "tuple", .base (.str z), kit_ty (by decide +kernel), _, rfl, iteT (iteT q)⟩
    | lst hs hd => exact ⟨_, rfl, _, _, _, _, false, rfl, .ty "tuple", tyx_list hs, kit_ty (by decide +kernel), _, rfl, iteT (iteT q)⟩
    | @tup a xs ds hs hd =>
      refine ⟨_, rfl, _, _, _, _, true, rfl, .ty "tuple", tyx_tup hs, kit_ty (by decide +kernel), _, rfl, iteF ?_⟩
      refine ⟨_, rfl, a, xs, rfl, .inr hs, rfl, _, rfl, ?_⟩
      have hlen := DpAll.len hd
      refine ite2 (fun h => ?_) (fun h => ?_)
      · have n2 : ds.length ≠ 2 := fun z => by
          rw [hlen, z] at h
          exact absurd h (by decide)
        have e : isRat (.tuple ds) = false := by
          match ds, n2 with
          | [], _ => rfl
          | [_], _ => rfl
          | [_, _], n => exact absurd rfl n
          | _ :: _ :: _ :: _, _ => rfl
        rw [e] at q
        exact q
      · have n2 : xs.length = 2 := by
          by_cases z : xs.length = 2
          · exact z
          · have w : decide (V.int (xs.length : Int) = V.int 2) = false := decide_eq_false fun y => z (by have := V.int.inj y; omega)
            rw [w] at h
            exact absurd rfl h
        obtain ⟨y1, y2, d1, d2, rfl, rfl, h1, h2⟩ := two_of hd n2
        have q : Q (.bl (isRat (.tuple [d1, d2]))) H := q
        clear h
        refine ⟨_, rfl, a, _, rfl, hs, rfl, ?_⟩
        have q : Q (.bl (whole d1 && (whole d2 && (decide (1 ≤ intOf d2) && decide (Nat.gcd (intOf d1).natAbs (intOf d2).natAbs = 1))))) H := q
        refine ⟨y1, _, rfl, y2, _, rfl, rfl, ?_⟩
        refine ⟨_, rfl, y1, d1, rfl, h1, _, rfl, ?_⟩
        cases e1 : whole d1 with
        | false =>
          rw [e1] at q
          exact iteF q
        | true =>
          rw [e1] at q
          refine iteT ⟨_, rfl, y2, d2, rfl, h2, _, rfl, ?_⟩
          cases e2 : whole d2 with
          | false =>
            rw [e2] at q
            exact iteF q
          | true =>
            rw [e2] at q
            obtain ⟨i1, rfl⟩ := whole_int e1
            obtain ⟨i2, rfl⟩ := whole_int e2
            cases h1
            cases h2
            refine iteT ⟨_, rfl, _, _, rfl, rfl, _, rfl, ?_⟩
            have q : Q (.bl (decide (1 ≤ i2) && decide (Nat.gcd i1.natAbs i2.natAbs = 1))) H := q
            cases e3 : decide (1 ≤ i2) with
            | false =>
              rw [e3] at q
              exact iteF q
            | true =>
              rw [e3] at q
              refine iteT ⟨_, rfl, _, rfl, i1, i2, rfl, rfl, ?_⟩
              have q : Q (.bl (decide (Nat.gcd i1.natAbs i2.natAbs = 1))) H := q
              have e : decide (V.int ((Nat.gcd i1.natAbs i2.natAbs : Nat) : Int) = V.int 1) = decide (Nat.gcd i1.natAbs i2.natAbs = 1) := by
                by_cases z : Nat.gcd i1.natAbs i2.natAbs = 1
                · rw [decide_eq_true z]
                  exact decide_eq_true (show V.int ((Nat.gcd i1.natAbs i2.natAbs : Nat) : Int) = V.int 1 by rw [z]; rfl)
                · rw [decide_eq_false z, decide_eq_false fun y => z (by have := V.int.inj y; omega)]
              rw [← e] at q
              exact q
end
end Lw

set_option linter.unusedVariables false
set_option maxRecDepth 100000
namespace Lw
open PySem PySem.Spec PyProof.Rows L2 VG
section
variable {P : Program} {w : World} {K : PySem.W.Frag} {mg : Str → Option Value} {base : Heap}
def spLowest : Sp := fun vs H Q _ => ∃ (t b : Int), vs = [.int t, .int b] ∧ 0 < b ∧ b.natAbs < 2 ^ 8000 ∧ ∀ T, H T = none → Q (.ref T) (upd H T (.tup [.int (low t b).1, .int (low t b).2]))
theorem gcd_fits {t b : Int} (h : 0 < b) (hb : b.natAbs < 2 ^ 8000) : CDivW t (Nat.gcd t.natAbs b.natAbs : Nat) ∧ CDivW b (Nat.gcd t.natAbs b.natAbs : Nat) := by
  have h0 : 0 < b.natAbs := by omega
  have g0 : 0 < Nat.gcd t.natAbs b.natAbs := Nat.gcd_pos_of_pos_right _ h0
  have g1 : Nat.gcd t.natAbs b.natAbs < 2 ^ 8000 := Nat.lt_of_le_of_lt (Nat.gcd_le_right _ h0) hb
  have c : ∀ i : Int, CDivW i (Nat.gcd t.natAbs b.natAbs : Nat) := fun i => wide_div (b := 8000) (by omega) (by rw [Int.natAbs_natCast]; exact g1) (by decide) (by decide)
  exact ⟨c t, c b⟩
/-- ratio_of(x) -/
def spRatioOf (K : PySem.W.Frag) (C : Addr) (n : Nat) : Sp := fun vs H Q E => ∃ (x : V) (d : PyData), vs = [x] ∧ Dp K H x d ∧ fit n d = true ∧ (∀ i, d = .int i → ∀ T, H T = none → Q (.ref T) (upd H T (.tup [.int i, .int 1]))) ∧ (isRat d = true → Q x H) ∧
  (whole d = false → isRat d = false → ∀ (dd : Addr) (H' : Hp), Same H H' → ErrD K H' dd [("code", .str "InvalidRatio"), ("given", d)] → E (.ref C) (some dd) H')
theorem scRatioOf : FnScope ["value"] ["value"] (defScope s_ratio_of) := ⟨rfl, rfl, rfl, by decide +kernel, rfl, by decide +kernel, by decide +kernel⟩
theorem ok_ratioOf {f fW fR C : Addr} {fd fdW fdR : FuncData} {k n : Nat} (F : Fun K "ratio_of" "ratio_of" s_ratio_of f fd) (FW : Fun K "_is_whole" "_is_whole" s__is_whole fW fdW) (FR : Fun K "is_ratio" "is_ratio" s_is_ratio fR fdR) (T : NmR mg)
    (mW : mg "_is_whole" = some (.ref fW)) (bW : Binds K fdW ["value"] []) (mR : mg "is_ratio" = some (.ref fR)) (bR : Binds K fdR ["value"] []) (X : ErrC P w K mg base "InvalidRatio" ["given"] C k n) (hk : 1 ≤ k) :
    FnOk P w K mg base (L2.CX P w) (k + 2) f fd ["value"] (spRatioOf K C n) := by
  refine F.okX scRatioOf (fun vs H Q E h => ?_) (fun cdv A outer s H vs Q E hr h => ?_)
  · obtain ⟨x, d, rfl, _⟩ := h
    rfl
  · obtain ⟨x, d, rfl, hx, hf, q1, q2, q3⟩ := h
    refine ⟨_, pss_cons (ps_if (pt_val (pe_call (ok_whole FW T.w) (hr.mono (by omega)) (by rfl) mW FW.kp bW .nil pass0 (pa_cons (pv 0) pa_nil))) (pss_one (ps_ret (pe_tup (pa_cons (pv 0) (pa_cons pe_int pa_nil))))) pss_nil)
      (pss_cons (ps_if (pt_not (pt_val (pe_call (ok_isRat FR FW T mW bW) (hr.mono (by omega)) (by rfl) mR FR.kp bR .nil pass0 (pa_cons (pv 0) pa_nil)))) (pss_one (ps_err X rfl (takes_of rfl rfl rfl rfl) hr (by rfl) (pa_cons (pv 0) pa_nil))) pss_nil)
      (pss_one (ps_ret (pv 0)))), ?_⟩
    refine ⟨_, rfl, x, d, rfl, hx, _, rfl, ?_⟩
    cases e1 : whole d with
    | true =>
      obtain ⟨i, rfl⟩ := whole_int e1
      cases hx
      exact iteT ⟨_, rfl, small_line (by show 2 ≤ 1000; decide), fun T hT => q1 i rfl T hT⟩
    | false =>
      refine iteF ⟨_, rfl, x, d, rfl, hx, _, rfl, ?_⟩
      cases e2 : isRat d with
      | true => exact iteF ⟨_, rfl, q2 e2⟩
      | false =>
        refine iteT ⟨_, rfl, mk_err (ds := [d]) rfl rfl (by decide) (.cons hx .nil) (fun d' hd' => ?_) fun dd H' sm er => q3 e1 e2 dd H' sm er⟩
        obtain rfl := List.mem_singleton.mp hd'
        exact hf
end
theorem fn_passes {P : Program} {w : World} {K : PySem.W.Frag} {mg : Str → Option Value} {base : Heap} {N : List Str} {q : Str} {sc : Scope} {f : Addr} {cd : Value} {A : Around} {outer : List Env} {s : Shared} {H : Hp} {E : XK} : Passes (L2.CX P w) (cxOf (L2.CX P w) P w K mg base N q sc f cd A outer s H E) E :=
  passes_call (W := fun cls d _ H => E cls d H) (takes_of rfl rfl rfl rfl) fun _ _ _ _ h => h
/-- the ratio that some data are -/
def ratD : PyData → Int × Int
  | .int i => (i, 1)
  | .tuple [a, b] => (intOf a, intOf b)
  | _ => (0, 1)
def okR (d : PyData) : Bool := whole d || isRat d
theorem isRat_form {d : PyData} (h : isRat d = true) : ∃ t b : Int, d = .tuple [.int t, .int b] ∧ 1 ≤ b := by
  cases d with
  | tuple ds =>
    match ds, h with
    | [a, b], h =>
      have h : (whole a && (whole b && (decide (1 ≤ intOf b) && decide (Nat.gcd (intOf a).natAbs (intOf b).natAbs = 1)))) = true := h
      simp only [Bool.and_eq_true, decide_eq_true_eq] at h
      obtain ⟨h1, h2, h3, _⟩ := h
      obtain ⟨t, rfl⟩ := whole_int h1
      obtain ⟨c, rfl⟩ := whole_int h2
      exact ⟨t, c, rfl, h3⟩
    | [], h => cases h
    | [_], h => cases h
    | _ :: _ :: _ :: _, h => cases h
  | _ => cases h
section
variable {K : PySem.W.Frag} {C : Addr} {n : Nat} {H : Hp} {x : V} {d : PyData} {Q : VK} {E : XK}
theorem rof_read (hx : Dp K H x d) (hf : fit n d = true) (k : okR d = true → ∀ (T : Addr) (H' : Hp), Same H H' → SqT K H' T [.int (ratD d).1, .int (ratD d).2] → Q (.ref T) H')
    (e : okR d = false → ∀ (dd : Addr) (H' : Hp), Same H H' → ErrD K H' dd [("code", .str "InvalidRatio"), ("given", d)] → E (.ref C) (some dd) H') : spRatioOf K C n [x] H Q E := by
  refine ⟨x, d, rfl, hx, hf, fun i hi T hT => ?_, fun hr => ?_, fun h1 h2 => e (by unfold okR; rw [h1, h2]; rfl)⟩
  · subst hi
    exact k rfl T _ (same_upd hT) (SqT.of upd_same)
  · obtain ⟨t, b, rfl, _⟩ := isRat_form hr
    have ok : okR (.tuple [.int t, .int b]) = true := by
      unfold okR
      rw [hr, Bool.or_true]
    cases hx with
    | tup hs hd =>
      cases hd with
      | cons h1 t1 =>
        cases t1 with
        | cons h2 t2 =>
          cases t2
          cases h1
          cases h2
          exact k ok _ H (Same.refl H) hs
end
section
variable {P : Program} {w : World} {K : PySem.W.Frag} {mg : Str → Option Value} {base : Heap}
/-- ratio_of, told by okR -/
def spRat2 (K : PySem.W.Frag) (C : Addr) (n : Nat) : Sp := fun vs H Q E => ∃ (x : V) (d : PyData), vs = [x] ∧ Dp K H x d ∧ fit n d = true ∧ (okR d = true → ∀ (T : Addr) (H' : Hp), Same H H' → SqT K H' T [.int (ratD d).1, .int (ratD d).2] → Q (.ref T) H') ∧
  (okR d = false → ∀ (dd : Addr) (H' : Hp), Same H H' → ErrD K H' dd [("code", .str "InvalidRatio"), ("given", d)] → E (.ref C) (some dd) H')
theorem ok_rat2 {CX : CXT} {k n : Nat} {f C : Addr} {fd : FuncData} {ps : List Str} (G : FnOk P w K mg base CX k f fd ps (spRatioOf K C n)) : FnOk P w K mg base CX k f fd ps (spRat2 K C n) :=
  G.imp fun vs H Q E ⟨x, d, e, hx, hf, k, er⟩ => by
    subst e
    exact rof_read hx hf k er
end
end Lw

set_option maxRecDepth 100000
namespace Lw
open PySem PySem.Spec PyProof.Rows L2
open TL (numL)
open NumText (AllDigits digitsVal)
/-! ### texts of numbers and of ratios, by their signs -/
/-- the text of some signs -/
abbrev Tx (l : List Nat) : Str := ⟨l.toArray⟩
theorem tx_list (l : List Nat) : (Tx l).cps.toList = l := rfl
theorem tx_len (l : List Nat) : (Tx l).length = l.length := by simp [Str.length]
theorem tx_of (x : Str) : Tx x.cps.toList = x := rfl
theorem tx_app (a b : List Nat) : Tx a ++ Tx b = Tx (a ++ b) := SX.S_cat a b
theorem tx_inj {a b : List Nat} (h : Tx a = Tx b) : a = b := SX.S_inj h
theorem val_snoc (l : List Nat) (c : Nat) : digitsVal (l ++ [c]) = digitsVal l * 10 + (c - 48) := by
  unfold digitsVal
  rw [List.foldl_append]
  rfl
theorem digs_app {a b : List Nat} (h : AllDigits (a ++ b)) : AllDigits a ∧ AllDigits b := ⟨fun c hc => h c (List.mem_append_left _ hc), fun c hc => h c (List.mem_append_right _ hc)⟩
/-- no needless zero ahead -/
def NoZ (l : List Nat) : Prop := l = [48] ∨ l.head? ≠ some 48
theorem num_zero : numL 0 = [48] := TL.numL_lt (by decide)
theorem num_back : ∀ (k : Nat) (l : List Nat), l.length = k → AllDigits l → l ≠ [] → NoZ l → numL (digitsVal l) = l := by
  intro k
  induction k with
  | zero => intro l hl _ hn; exact absurd (List.length_eq_zero_iff.mp hl) hn
  | succ k ih =>
    intro l hl hd hn hz
    obtain ⟨i, c, rfl⟩ : ∃ i c, l = i ++ [c] := ⟨l.dropLast, l.getLast hn, (List.dropLast_concat_getLast hn).symm⟩
    have hl : i.length = k := by simpa using hl
    obtain ⟨hi, hc⟩ := digs_app hd
    have hc := hc c (List.mem_singleton.mpr rfl)
    rw [val_snoc]
    by_cases hi0 : i = []
    · subst hi0
      show numL (0 * 10 + (c - 48)) = [c]
      rw [TL.numL_lt (by omega), show 48 + (0 * 10 + (c - 48)) = c by omega]
    · have hz2 : i.head? ≠ some 48 := by
        rcases hz with z | z
        · exfalso
          have := congrArg List.length z
          rw [List.length_append] at this
          have h1 : i.length ≠ 0 := fun z => hi0 (List.length_eq_zero_iff.mp z)
          have w : i.length + 1 = 1 := this
          omega
        · rw [List.head?_append] at z
          cases i with
          | nil => exact absurd rfl hi0
          | cons d r => exact z
      have e := ih i hl hi hi0 (.inr hz2)
      have h1 : 1 ≤ digitsVal i := by
        by_cases z : digitsVal i = 0
        · rw [z, num_zero] at e
          rw [← e] at hz2
          exact absurd rfl hz2
        · omega
      rw [TL.numL_step (by omega), show (digitsVal i * 10 + (c - 48)) / 10 = digitsVal i by omega, show 48 + (digitsVal i * 10 + (c - 48)) % 10 = c by omega, e]
theorem num_noz (n : Nat) : NoZ (numL n) := by
  induction n using Nat.strongRecOn with
  | _ n ih =>
    by_cases h : n < 10
    · rw [TL.numL_lt h]
      by_cases z : n = 0
      · exact .inl (by rw [z])
      · exact .inr (by show some (48 + n) ≠ some 48; intro y; have := Option.some.inj y; omega)
    · rw [TL.numL_step (by omega)]
      refine .inr ?_
      have hn := TL.numL_ne (n / 10)
      rw [List.head?_append]
      rcases ih (n / 10) (by omega) with z | z
      · have e : n / 10 = 0 := TL.numL_inj (z.trans num_zero.symm)
        omega
      · cases q : numL (n / 10) with
        | nil => exact absurd q hn
        | cons d r =>
          rw [q] at z
          exact z
/-- the text of a ratio -/
def topL (t : Int) : List Nat := (if t < 0 then [45] else []) ++ numL t.natAbs
def textL (t b : Int) : List Nat := topL t ++ (if b = 1 then [] else 47 :: numL b.natAbs)
theorem num_47 (n : Nat) : 47 ∉ numL n := TL.numL_free (.inl (by decide))
theorem num_45 (n : Nat) : 45 ∉ numL n := TL.numL_free (.inl (by decide))
theorem top_47 (t : Int) : 47 ∉ topL t := by
  unfold topL
  intro h
  rcases List.mem_append.mp h with h | h
  · split at h
    · exact absurd (List.mem_singleton.mp h) (by decide)
    · cases h
  · exact num_47 _ h
theorem top_ne (t : Int) : topL t ≠ [] := by
  unfold topL
  intro h
  exact TL.numL_ne _ (List.append_eq_nil_iff.mp h).2
theorem num_head {n : Nat} : (numL n).head? ≠ some 45 := fun h => num_45 n (List.mem_of_head? h)
theorem top_inj {s t : Int} (h : topL s = topL t) : s = t := by
  unfold topL at h
  by_cases hs : s < 0 <;> by_cases ht : t < 0
  · rw [if_pos hs, if_pos ht] at h
    have := TL.numL_inj (List.cons.inj h).2
    omega
  · rw [if_pos hs, if_neg ht] at h
    have z := congrArg List.head? h
    exact absurd z.symm num_head
  · rw [if_neg hs, if_pos ht] at h
    have z := congrArg List.head? h
    exact absurd z num_head
  · rw [if_neg hs, if_neg ht] at h
    have := TL.numL_inj (show numL s.natAbs = numL t.natAbs from h)
    omega
/-- some signs are the text of a ratio -/
structure IsR (t b : Int) (l : List Nat) : Prop where
  pos : 1 ≤ b
  low : Nat.gcd t.natAbs b.natAbs = 1
  txt : l = textL t b
theorem cut_one {a b c d : List Nat} (ha : 47 ∉ a) (hc : 47 ∉ c) (h : a ++ 47 :: b = c ++ 47 :: d) : a = c ∧ b = d := by
  induction a generalizing c with
  | nil =>
    cases c with
    | nil => exact ⟨rfl, (List.cons.inj h).2⟩
    | cons x c => exact absurd (List.mem_cons.mpr (.inl (List.cons.inj h).1)) hc
  | cons x a ih =>
    cases c with
    | nil => exact absurd (List.mem_cons.mpr (.inl (List.cons.inj h).1.symm)) ha
    | cons y c =>
      obtain ⟨e, h⟩ := List.cons.inj h
      obtain ⟨e1, e2⟩ := ih (fun z => ha (List.mem_cons_of_mem _ z)) (fun z => hc (List.mem_cons_of_mem _ z)) h
      exact ⟨by rw [e, e1], e2⟩
theorem IsR.uniq {t b s c : Int} {l : List Nat} (h : IsR t b l) (g : IsR s c l) : t = s ∧ b = c := by
  have e := h.txt.symm.trans g.txt
  unfold textL at e
  have hb := h.pos
  have hc := g.pos
  by_cases h1 : b = 1 <;> by_cases g1 : c = 1
  · rw [if_pos h1, if_pos g1, List.append_nil, List.append_nil] at e
    exact ⟨top_inj e, h1.trans g1.symm⟩
  · rw [if_pos h1, if_neg g1, List.append_nil] at e
    exact absurd (by rw [e]; exact List.mem_append_right _ List.mem_cons_self) (top_47 t)
  · rw [if_neg h1, if_pos g1, List.append_nil] at e
    exact absurd (by rw [← e]; exact List.mem_append_right _ List.mem_cons_self) (top_47 s)
  · rw [if_neg h1, if_neg g1] at e
    obtain ⟨e1, e2⟩ := cut_one (top_47 t) (top_47 s) e
    have := TL.numL_inj e2
    exact ⟨top_inj e1, by omega⟩
/-! ### str of a number -/
theorem str_int (t : Int) : Str.ofString (toString t) = Tx (topL t) := by
  refine TL.ext_tl ?_
  show (Str.ofString (toString t)).cps.toList = topL t
  unfold topL
  cases t with
  | ofNat n =>
    rw [if_neg (by exact Int.not_lt.mpr (Int.natCast_nonneg n))]
    exact TL.tl_num n
  | negSucc n =>
    rw [if_pos (Int.negSucc_lt_zero n)]
    have e : toString (Int.negSucc n) = "-" ++ toString (n + 1) := rfl
    rw [e]
    have e2 := TL.tl_num (n + 1)
    have e3 : (Str.ofString (toString ((n + 1 : Nat) : Int))) = Str.ofString (toString (n + 1)) := rfl
    rw [e3] at e2
    have e4 : TL.tl (Str.ofString ("-" ++ toString (n + 1))) = 45 :: TL.tl (Str.ofString (toString (n + 1))) := by
      show (Str.ofString _).cps.toList = 45 :: (Str.ofString _).cps.toList
      rw [PyProof.Rows.signs_ofString, PyProof.Rows.signs_ofString, String.toList_append]
      rfl
    exact e4.trans (by rw [e2]; rfl)
end Lw

set_option maxRecDepth 100000
set_option linter.unusedVariables false
namespace Lw
open PySem PySem.Spec PyProof.Rows L2 VG
open TL (numL)
open NumText (AllDigits digitsVal)
section
variable {P : Program} {w : World} {K : PySem.W.Frag} {mg : Str → Option Value} {base : Heap}
/-! ### the figures of a number, the text of a ratio -/
theorem scFig : FnScope ["number", "pieces", "piece"] ["number"] (defScope s__figures) := ⟨rfl, rfl, rfl, by decide +kernel, rfl, by decide +kernel, by decide +kernel⟩
def spFig : Sp := fun vs H Q _ => ∃ n : Nat, vs = [.int n] ∧ n < 10 ^ 60 ∧ ∀ H', Same H H' → Q (.str (Tx (numL n))) H'
theorem log_60 {n : Nat} (h : n < 10 ^ 60) : (n : Int).natAbs.log2 < 1920 := by
  rw [Int.natAbs_natCast]
  have : n < 2 ^ 1920 := Nat.lt_of_lt_of_le h (by decide)
  exact PySem.Flt.log2_lt_of (by decide) this
theorem num_60 {n : Nat} (h : n < 10 ^ 60) : (numL n).length ≤ 60 := TL.numL_len (by decide) h
theorem ok_fig {f : Addr} {fd : FuncData} (F : Fun K "_figures" "_figures" s__figures f fd) (ms : mg "str" = none) : FnOk P w K mg base CX0 1 f fd ["number"] spFig := by
  refine F.ok scFig (fun vs H Q E h => ?_) (fun cdv A outer s H vs Q E hr h => ?_)
  · obtain ⟨n, rfl, _⟩ := h
    rfl
  · obtain ⟨n, rfl, hn, q⟩ := h
    have nd := scFig.nd
    refine ⟨_, pss_cons (ps_set (i := 1) nd rfl (Or.inl rfl) (pe_lst pa_nil))
      (pss_cons (ps_while PassesOwn.never (pt_cmpR op_ge (pv 0) (pe_op op_pow pe_int pe_int) (nomark _)) pss_false)
      (pss_cons (ps_expr (pe_bm PySem.F.plainAttrs_list PySem.F.slot_list_append PySem.F.type_list_append mt_append (pv 1) (pa_cons (pe_callTy call_str_int (by rfl) ms (by decide +kernel) (pa_cons (pv 0) pa_nil)) pa_nil)))
      (pss_one (ps_ret (pe_join pe_str (pe_revL (pv 1))))))), ?_⟩
    refine ⟨by show 0 ≤ sizeLine; decide, fun D hD => ?_⟩
    have sm1 := same_upd (o := .lst []) hD
    dsimp only [gName, tSeq]
    refine while_by (fun σ G => G = upd H D (.lst []) ∧ σ = [some (.int n), some (.ref D), none]) (fun _ _ => 0) ⟨rfl, rfl⟩ ?_ ?_
    · rintro σ G ⟨rfl, rfl⟩
      have hf : decide ((10 : Int) ^ (60 : Int).toNat ≤ (n : Int)) = false := decide_eq_false (by
        have : ((10 : Int) ^ (60 : Int).toNat) = ((10 ^ 60 : Nat) : Int) := by decide
        omega)
      refine ⟨_, rfl, _, _, rfl, rfl, ⟨by decide, by decide, by decide⟩, _, _, rfl, rfl, _, rfl, ?_⟩
      rw [hf]
      refine iteF ?_
      refine ⟨_, rfl, .inl ⟨rfl, _, SqL.of upd_same⟩, _, rfl, _, rfl, log_60 hn, D, [], _, rfl, rfl, upd_same, by show 0 < sizeLine; decide, ?_⟩
      refine ⟨⟨_, rfl⟩, _, rfl, D, _, rfl, SqL.of upd_same, fun p hp => ?_⟩
      refine ⟨_, p, [Str.ofString (toString (n : Int))], rfl, rfl, .inl (SqL.of upd_same), ?_, ?_⟩
      · show (Str.ofString (toString (n : Int))).length + 0 + 1 * 0 ≤ 16777216
        rw [str_int, tx_len]
        have z := num_60 hn
        unfold topL
        rw [if_neg (by omega)]
        show (numL (n : Int).natAbs).length + 0 + 1 * 0 ≤ 16777216
        rw [Int.natAbs_natCast]
        omega
      · have e : Txt.join (Str.ofString "") [Str.ofString (toString (n : Int))] = Tx (numL n) := by
          rw [TL.join_eq]
          show Str.ofString (toString (n : Int)) = _
          rw [str_int]
          unfold topL
          rw [if_neg (by omega), Int.natAbs_natCast]
          rfl
        rw [e]
        refine q _ fun b o h => ?_
        have nD := ne_of_none h hD
        have h1 : upd (upd H D (.lst [])) D (.lst ([] ++ [V.str (Str.ofString (toString (n : Int)))])) b = some o := by rw [upd_ne nD, upd_ne nD]; exact h
        rw [upd_ne (ne_of_none h1 hp)]
        exact h1
    · rintro σ G Q1 Q2 hq ⟨v, e1, i, j, e2, e3, c, i2, j2, e4, e5, b, e6, z⟩
      exact ⟨v, e1, i, j, e2, e3, c, i2, j2, e4, e5, b, e6, hq _ _ z⟩
/-- the text of a ratio -/
theorem scText : FnScope ["value", "top", "bottom", "sign", "text"] ["value"] (defScope s_ratio_text) := ⟨rfl, rfl, rfl, by decide +kernel, rfl, by decide +kernel, by decide +kernel⟩
def spText (K : PySem.W.Frag) (C : Addr) (n : Nat) : Sp := fun vs H Q E => ∃ (x : V) (d : PyData), vs = [x] ∧ Dp K H x d ∧ fit n d = true ∧
  (okR d = true → (ratD d).1.natAbs < 10 ^ 60 ∧ (ratD d).2.natAbs < 10 ^ 60 ∧ ∀ H', Same H H' → Q (.str (Tx (textL (ratD d).1 (ratD d).2))) H') ∧
  (okR d = false → ∀ (dd : Addr) (H' : Hp), Same H H' → ErrD K H' dd [("code", .str "InvalidRatio"), ("given", d)] → E (.ref C) (some dd) H')
theorem okR_pos {d : PyData} (h : okR d = true) : 1 ≤ (ratD d).2 := by
  unfold okR at h
  cases e : whole d with
  | true =>
    obtain ⟨i, rfl⟩ := whole_int e
    exact Int.le_refl _
  | false =>
    rw [e] at h
    obtain ⟨t, b, rfl, hb⟩ := isRat_form h
    exact hb
theorem fits_line {n : Nat} (h : n ≤ 1000) : n ≤ sizeLine := Nat.le_trans h (by decide)
theorem ok_text {f fT fF C : Addr} {fd fdT fdF : FuncData} {k n : Nat} (F : Fun K "ratio_text" "ratio_text" s_ratio_text f fd) (ma : mg "abs" = none) (GT : FnOk P w K mg base (L2.CX P w) k fT fdT ["value"] (spRat2 K C n)) (mT : mg "ratio_of" = some (.ref fT)) (kT : PySem.W.keepIn K (.ref fT) = true) (bT : Binds K fdT ["value"] [])
    (GF : FnOk P w K mg base CX0 1 fF fdF ["number"] spFig) (mF : mg "_figures" = some (.ref fF)) (kF : PySem.W.keepIn K (.ref fF) = true) (bF : Binds K fdF ["number"] []) (hk : 1 ≤ k) :
    FnOk P w K mg base (L2.CX P w) (k + 1) f fd ["value"] (spText K C n) := by
  refine F.okX scText (fun vs H Q E h => ?_) (fun cdv A outer s H vs Q E hr h => ?_)
  · obtain ⟨x, d, rfl, _⟩ := h
    rfl
  · obtain ⟨x, d, rfl, hx, hf, q, er⟩ := h
    have nd := scText.nd
    refine ⟨_, pss_cons (ps_asg (pe_call GT hr (by rfl) mT kT bT .nil fn_passes (pa_cons (pv 0) pa_nil)) (pg_tup (by rfl) (pgs_cons (pg_name (i := 1) nd rfl (Or.inl rfl)) (pgs_cons (pg_name (i := 2) nd rfl (Or.inl rfl)) pgs_nil))))
      (C8.pss_cut (ps_set (i := 3) nd rfl (Or.inl rfl) (pe_ifExp (pt_cmpR op_lt (pv 1) pe_int (nomark _)) pe_str pe_str))
      (pss_cons (ps_set (i := 4) nd rfl (Or.inl rfl) (pe_op op_add_str (pv 3) (pe_call GF (hr.mono hk) (by rfl) mF kF bF .nil pass0 (pa_cons (pe_callB call_abs (by rfl) ma (by decide +kernel) (pa_cons (pv 1) pa_nil)) pa_nil))))
      (pss_cons (ps_if (pt_cmpR op_eq (pv 2) pe_int (nomark _)) (pss_one (ps_ret (pv 4))) pss_nil)
      (pss_one (ps_ret (pe_op op_add_str (pe_op op_add_str (pv 4) pe_str) (pe_call GF (hr.mono hk) (by rfl) mF kF bF .nil pass0 (pa_cons (pv 2) pa_nil)))))))), ?_⟩
    refine ⟨_, rfl, x, d, rfl, hx, hf, fun ok T H1 sm1 hT => ?_, fun no dd H1 sm1 ed => ?_⟩
    · obtain ⟨b1, b2, q⟩ := q ok
      have hp := okR_pos ok
      generalize ratD d = s at *
      obtain ⟨t, b⟩ := s
      dsimp only at *
      refine ⟨T, _, rfl, hT, rfl, _, _, rfl, _, _, rfl, rfl, ?_⟩
      refine ⟨fun σ G => σ = [some x, some (.int t), some (.int b), some (.str (Tx (if t < 0 then [45] else []))), none] ∧ G = H1, ?_, ?_⟩
      · refine ⟨_, rfl, _, _, rfl, rfl, _, rfl, ite2 (fun h => ?_) (fun h => ?_)⟩
        · have h : t < 0 := of_decide_eq_true h
          rw [if_pos h]
          exact ⟨rfl, rfl⟩
        · have h : ¬ t < 0 := fun z => h (decide_eq_true z)
          rw [if_neg h]
          exact ⟨rfl, rfl⟩
      · rintro σ G ⟨rfl, rfl⟩
        have ab : (if t < 0 then -t else t) = (t.natAbs : Int) := by
          by_cases z : t < 0
          · rw [if_pos z]; omega
          · rw [if_neg z]; omega
        refine ⟨_, rfl, _, rfl, t, rfl, t.natAbs, by rw [ab]; rfl, b1, fun H2 sm2 => ?_⟩
        have l1 := num_60 b1
        have l2 := num_60 b2
        refine ⟨_, _, rfl, rfl, ?_, ?_⟩
        · refine fits_line ?_
          rw [tx_len, tx_len]
          split <;> simp <;> omega
        rw [tx_app]
        refine ⟨_, rfl, rfl, _, rfl, ite2 (fun h => ?_) (fun h => ?_)⟩
        · have h : b = 1 := V.int.inj (of_decide_eq_true h)
          refine ⟨_, rfl, ?_⟩
          have e : textL t b = (if t < 0 then [45] else []) ++ numL t.natAbs := by
            unfold textL topL
            rw [if_pos h, List.append_nil]
          rw [← e]
          exact q _ (sm1.trans sm2)
        · have h : b ≠ 1 := fun z => h (decide_eq_true (by rw [z]))
          refine ⟨_, rfl, _, _, rfl, rfl, ?_, _, rfl, b.natAbs, by rw [show ((b.natAbs : Nat) : Int) = b by omega]; rfl, b2, fun H3 sm3 => ?_⟩
          · refine fits_line ?_
            rw [tx_len]
            show _ + 1 ≤ 1000
            rw [List.length_append]
            split <;> simp <;> omega
          · have e1 : Tx ((if t < 0 then [45] else []) ++ numL t.natAbs) ++ (Str.ofString "/") = Tx ((if t < 0 then [45] else []) ++ numL t.natAbs ++ [47]) := tx_app _ [47]
            rw [e1]
            refine ⟨_, _, rfl, rfl, ?_, ?_⟩
            · refine fits_line ?_
              rw [tx_len, tx_len, List.length_append, List.length_append]
              split <;> simp <;> omega
            · rw [tx_app]
              have e : textL t b = (if t < 0 then [45] else []) ++ numL t.natAbs ++ [47] ++ numL b.natAbs := by
                unfold textL topL
                rw [if_neg h, List.append_assoc, List.append_assoc, List.append_assoc]
                rfl
              rw [← e]
              exact q _ ((sm1.trans sm2).trans sm3)
    · exact er no dd H1 sm1 ed
end
end Lw

set_option maxRecDepth 100000
set_option linter.unusedVariables false
namespace Lw
open PySem PySem.Spec PyProof.Rows L2 VG
open TL (numL)
open NumText (AllDigits digitsVal)
/-! ### reading -/
/-- without one minus ahead -/
def strip : List Nat → List Nat
  | 45 :: r => r
  | l => l
theorem strip_of {l : List Nat} (h : l.head? ≠ some 45) : strip l = l := by
  match l, h with
  | [], _ => rfl
  | c :: r, h =>
    unfold strip
    split
    · rename_i q
      rw [(List.cons.inj q).1] at h
      exact absurd rfl h
    · rfl
theorem head_45 {l : List Nat} (h : l.head? = some 45) : ∃ r, l = 45 :: r := by
  cases l with
  | nil => cases h
  | cons c r =>
    have : c = 45 := Option.some.inj h
    exact ⟨r, by rw [this]⟩
theorem strip_top (t : Int) : strip (topL t) = numL t.natAbs := by
  unfold topL
  by_cases h : t < 0
  · rw [if_pos h]
    rfl
  · rw [if_neg h]
    exact strip_of num_head
theorem prefix_strip (a : List Nat) : Txt.removeprefix (Tx a) "-" = Tx (strip a) := by
  have e : Builtin.Str.subAt (Tx a) "-" 0 = ((a.drop 0).take 1 == [45]) := StrLaws.subAt_eq (Tx a) "-" 0
  unfold Txt.removeprefix
  rw [e]
  match a with
  | [] => rfl
  | c :: r =>
    by_cases h : c = 45
    · subst h
      have e2 : (((45 :: r : List Nat).drop 0).take 1 == [45]) = true := rfl
      rw [e2, if_pos rfl]
      have ne : ((Tx (45 :: r)).length - ("-" : Str).length == (Tx (45 :: r)).length) = false := by
        rw [tx_len]
        show (r.length + 1 - 1 == r.length + 1) = false
        exact beq_eq_false_iff_ne.mpr (by omega)
      show (if ((Tx (45 :: r)).length - ("-" : Str).length == (Tx (45 :: r)).length) = true then Tx (45 :: r) else Builtin.Str.strSub (Tx (45 :: r)) 1 (Tx (45 :: r)).length) = Tx r
      rw [ne, if_neg (by decide)]
      refine TL.ext_tl ?_
      rw [TL.tl_strSub_end]
      rfl
    · have e2 : (((c :: r : List Nat).drop 0).take 1 == [45]) = false := by
        show ([c] == [45]) = false
        exact beq_eq_false_iff_ne.mpr fun z => h (List.cons.inj z).1
      rw [e2, if_neg (by decide), strip_of (by intro z; exact h (Option.some.inj z))]
      rfl
/-- what int() makes of it -/
def valS (a : List Nat) : Int := if a.head? = some 45 then -((digitsVal a.tail : Nat) : Int) else ((digitsVal a : Nat) : Int)
theorem valS_neg (r : List Nat) : valS (45 :: r) = -((digitsVal r : Nat) : Int) := if_pos rfl
theorem valS_pos {a : List Nat} (h : a.head? ≠ some 45) : valS a = ((digitsVal a : Nat) : Int) := if_neg h
theorem val_top (t : Int) : valS (topL t) = t := by
  unfold topL
  by_cases h : t < 0
  · rw [if_pos h]
    show valS (45 :: numL t.natAbs) = t
    rw [valS_neg, TL.numL_val]
    omega
  · rw [if_neg h]
    show valS (numL t.natAbs) = t
    rw [valS_pos num_head, TL.numL_val]
    omega
theorem int_strip {a : List Nat} (h : AllDigits (strip a)) (hn : strip a ≠ []) (hl : (strip a).length ≤ 60) : PySem.intText? (Tx a) = some (valS a) ∧ (Tx a).length ≤ 640 ∧ (valS a).natAbs < 10 ^ 60 := by
  have small : ∀ l : List Nat, AllDigits l → l.length ≤ 60 → digitsVal l < 10 ^ 60 := by
    have key : ∀ (k : Nat) (l : List Nat), l.length = k → AllDigits l → digitsVal l < 10 ^ k := by
      intro k
      induction k with
      | zero => intro l hl _; rw [List.length_eq_zero_iff.mp hl]; decide
      | succ k ih =>
        intro l hl hd
        have hn : l ≠ [] := fun z => by rw [z] at hl; cases hl
        obtain ⟨i, c, rfl⟩ : ∃ i c, l = i ++ [c] := ⟨l.dropLast, l.getLast hn, (List.dropLast_concat_getLast hn).symm⟩
        have hl : i.length = k := by simpa using hl
        obtain ⟨hi, hc⟩ := digs_app hd
        have hc := hc c (List.mem_singleton.mpr rfl)
        rw [val_snoc]
        have := ih i hl hi
        rw [Nat.pow_succ]
        omega
    intro l hd hl
    exact Nat.lt_of_lt_of_le (key _ l rfl hd) (Nat.pow_le_pow_right (by decide) hl)
  by_cases h45 : a.head? = some 45
  · obtain ⟨r, rfl⟩ := head_45 h45
    have h : AllDigits r := h
    have hn : r ≠ [] := hn
    have hl : r.length ≤ 60 := hl
    have ln : (Tx (45 :: r)).length ≤ 640 := by rw [tx_len]; show r.length + 1 ≤ 640; omega
    refine ⟨?_, ln, ?_⟩
    · exact intText_neg (x := Tx (45 :: r)) rfl h hn (by omega)
    · show (-((digitsVal r : Nat) : Int)).natAbs < 10 ^ 60
      have := small r h hl
      omega
  · rw [strip_of h45] at h hn hl
    have ln : (Tx a).length ≤ 640 := by rw [tx_len]; omega
    have ev : valS a = ((digitsVal a : Nat) : Int) := if_neg h45
    refine ⟨?_, ln, ?_⟩
    · rw [ev]
      exact intText_digits (x := Tx a) h hn (by omega)
    · rw [ev]
      have := small a h hl
      omega
/-- are these figures -/
def figB (l : List Nat) : Bool := Txt.isascii (Tx l) && (Txt.isdigit (Tx l) && decide (((Tx l).length : Int) ≤ 60))
theorem dig_ascii : ∀ c, c < 128 → Unicode.isDigit c = decide (48 ≤ c ∧ c ≤ 57) := by decide +kernel
theorem figB_iff (l : List Nat) : figB l = true ↔ AllDigits l ∧ l ≠ [] ∧ l.length ≤ 60 := by
  unfold figB Txt.isascii Txt.isdigit
  rw [tx_len, ← Array.all_toList, ← Array.all_toList]
  show (l.all (fun c => decide (c < 128)) && ((decide (l.length > 0) && l.all Unicode.isDigit) && decide ((l.length : Int) ≤ 60))) = true ↔ _
  simp only [Bool.and_eq_true, decide_eq_true_eq, List.all_eq_true]
  constructor
  · rintro ⟨h1, ⟨h2, h3⟩, h4⟩
    refine ⟨fun c hc => ?_, fun z => by rw [z] at h2; exact absurd h2 (by decide), by omega⟩
    have := h3 c hc
    rw [dig_ascii c (h1 c hc)] at this
    exact of_decide_eq_true this
  · rintro ⟨h1, h2, h3⟩
    refine ⟨fun c hc => ?_, ⟨List.length_pos_iff.mpr h2, fun c hc => ?_⟩, by omega⟩
    · have := h1 c hc
      omega
    · have z := h1 c hc
      rw [dig_ascii c (by omega)]
      exact decide_eq_true z
/-- cut at the first slash, 1 for what is missing -/
def Cut (l a b : List Nat) : Prop := 47 ∉ a ∧ (l = a ++ 47 :: b ∨ (l = a ∧ b = [49]))
theorem num_one : numL 1 = [49] := TL.numL_lt (by decide)
theorem cut_of {l a b : List Nat} {t c : Int} (hc : Cut l a b) (h : IsR t c l) : a = topL t ∧ b = numL c.natAbs := by
  obtain ⟨h47, hl⟩ := hc
  have e := h.txt
  unfold textL at e
  have hp := h.pos
  rcases hl with rfl | ⟨rfl, rfl⟩
  · by_cases h1 : c = 1
    · rw [if_pos h1, List.append_nil] at e
      exact absurd (by rw [← e]; exact List.mem_append_right _ List.mem_cons_self) (top_47 t)
    · rw [if_neg h1] at e
      exact cut_one h47 (top_47 t) e
  · by_cases h1 : c = 1
    · rw [if_pos h1, List.append_nil] at e
      exact ⟨e, by rw [h1]; exact num_one.symm⟩
    · rw [if_neg h1] at e
      exact absurd (by rw [e]; exact List.mem_append_right _ List.mem_cons_self) h47
theorem cut_ex (l : List Nat) : ∃ a b, 47 ∉ a ∧ (l = a ++ 47 :: b ∨ (l = a ∧ 47 ∉ l)) := by
  induction l with
  | nil => exact ⟨[], [], by simp, .inr ⟨rfl, by simp⟩⟩
  | cons c r ih =>
    by_cases h : c = 47
    · exact ⟨[], r, by simp, .inl (by rw [h]; rfl)⟩
    · obtain ⟨a, b, ha, hb⟩ := ih
      have hca : 47 ∉ c :: a := fun z => by
        rcases List.mem_cons.mp z with z | z
        · exact h z.symm
        · exact ha z
      rcases hb with rfl | ⟨rfl, hr⟩
      · exact ⟨c :: a, b, hca, .inl rfl⟩
      · exact ⟨c :: r, [], hca, .inr ⟨rfl, hca⟩⟩
/-- some data read as a ratio -/
structure Reads (d : PyData) (t b : Int) : Prop where
  ex : ∃ x : Str, d = .str x ∧ IsR t b x.cps.toList
  top : t.natAbs < 10 ^ 60
  bot : b.natAbs < 10 ^ 60
theorem Reads.str {x : Str} {t b : Int} (h : Reads (.str x) t b) : IsR t b x.cps.toList := by
  obtain ⟨y, e, h⟩ := h.ex
  cases e
  exact h
end Lw

set_option maxRecDepth 100000
set_option linter.unusedVariables false
namespace Lw
open PySem PySem.Spec PyProof.Rows L2 VG
open TL (numL)
open NumText (AllDigits digitsVal)
section
variable {P : Program} {w : World} {K : PySem.W.Frag} {mg : Str → Option Value} {base : Heap}
theorem strip_len (a : List Nat) : (strip a).length ≤ a.length := by
  unfold strip
  split
  · show _ ≤ _ + 1
    omega
  · exact Nat.le_refl _
theorem scFigs : FnScope ["text"] ["text"] (defScope s__are_figures) := ⟨rfl, rfl, rfl, by decide +kernel, rfl, by decide +kernel, by decide +kernel⟩
def spFigs : Sp := fun vs H Q _ => ∃ l : List Nat, vs = [.str (Tx l)] ∧ l.length ≤ 1000 ∧ Q (.bl (figB l)) H
structure NmF (mg : Str → Option Value) : Prop where
  len : mg "len" = none
  most : ∃ u, mg "MOST_FIGURES" = some u ∧ RelV (.int 60) u
theorem ok_figs {f : Addr} {fd : FuncData} (F : Fun K "_are_figures" "_are_figures" s__are_figures f fd) (T : NmF mg) : FnOk P w K mg base CX0 1 f fd ["text"] spFigs := by
  refine F.ok scFigs (fun vs H Q E h => ?_) (fun cdv A outer s H vs Q E hr h => ?_)
  · obtain ⟨l, rfl, _⟩ := h
    rfl
  · obtain ⟨l, rfl, hl, k⟩ := h
    obtain ⟨u, mu, ru⟩ := T.most
    refine ⟨_, pss_one (ps_ret (pe_and (pe_m0 PySem.F.slot_str_isascii PySem.F.type_str_isascii mt_isascii (pv 0)) (pe_and (pe_m0 PySem.F.slot_str_isdigit PySem.F.type_str_isdigit mt_isdigit (pv 0))
      (pe_one (pe_cmpR op_le (pe_callB call_len (by rfl) T.len PySem.boot_len (pa_cons (pv 0) pa_nil)) (pe_glob (v := .int 60) (by rfl) mu ru) (nomark _)))))), ?_⟩
    refine ⟨_, rfl, ⟨_, rfl⟩, _, rfl, rfl, trivial, _, rfl, ?_⟩
    unfold figB at k
    cases e1 : Txt.isascii (Tx l) with
    | false =>
      rw [e1] at k
      exact iteF k
    | true =>
      rw [e1] at k
      refine iteT ⟨_, rfl, ⟨_, rfl⟩, _, rfl, rfl, trivial, _, rfl, ?_⟩
      cases e2 : Txt.isdigit (Tx l) with
      | false =>
        rw [e2] at k
        exact iteF k
      | true =>
        rw [e2] at k
        refine iteT ⟨_, rfl, _, (Tx l).length, rfl, ⟨fits_line (by rw [tx_len]; exact hl), rfl⟩, _, _, rfl, rfl, k⟩
theorem scRead : FnScope ["text", "top", "slash", "bottom", "value"] ["text"] (defScope s_read_ratio) := ⟨rfl, rfl, rfl, by decide +kernel, rfl, by decide +kernel, by decide +kernel⟩
def spRead (K : PySem.W.Frag) (C : Addr) (n : Nat) : Sp := fun vs H Q E => ∃ (x : V) (d : PyData), vs = [x] ∧ Dp K H x d ∧ fit n d = true ∧ (∀ z, d = .str z → z.length ≤ 1000) ∧
  (∀ t b, Reads d t b → ∀ (T : Addr) (H' : Hp), Same H H' → SqT K H' T [.int t, .int b] → Q (.ref T) H') ∧
  ((∀ t b, ¬ Reads d t b) → ∀ (dd : Addr) (H' : Hp), Same H H' → ErrD K H' dd [("code", .str "InvalidRatio"), ("given", d)] → E (.ref C) (some dd) H')
theorem ok_read {f fW fR fT fF fG C : Addr} {fd fdW fdR fdT fdF : FuncData} {k n : Nat} (F : Fun K "read_ratio" "read_ratio" s_read_ratio f fd) (TR : NmR mg) (ms : mg "str" = none) (mi : mg "int" = none)
    (FW : Fun K "_is_whole" "_is_whole" s__is_whole fW fdW) (mW : mg "_is_whole" = some (.ref fW)) (bW : Binds K fdW ["value"] []) (FR : Fun K "is_ratio" "is_ratio" s_is_ratio fR fdR) (mR : mg "is_ratio" = some (.ref fR)) (bR : Binds K fdR ["value"] [])
    (GT : FnOk P w K mg base (L2.CX P w) k fT fdT ["value"] (spText K C n)) (mT : mg "ratio_text" = some (.ref fT)) (kT : PySem.W.keepIn K (.ref fT) = true) (bT : Binds K fdT ["value"] [])
    (GF : FnOk P w K mg base CX0 1 fF fdF ["text"] spFigs) (mF : mg "_are_figures" = some (.ref fF)) (kF : PySem.W.keepIn K (.ref fF) = true) (bF : Binds K fdF ["text"] []) {kx : Nat} (X : ErrC P w K mg base "InvalidRatio" ["given"] C kx n) (hk : 2 ≤ k) (hkx : kx + 1 ≤ k) (hfit : ∀ t b : Int, fit n (.tuple [.int t, .int b]) = true) :
    FnOk P w K mg base (L2.CX P w) (k + 1) f fd ["text"] (spRead K C n) := by
  refine F.okX scRead (fun vs H Q E h => ?_) (fun cdv A outer s H vs Q E hr h => ?_)
  · obtain ⟨x, d, rfl, _⟩ := h
    rfl
  · obtain ⟨x, d, rfl, hx, hf, hlen, q, er⟩ := h
    have nd := scRead.nd
    have hrx : Room (kx + 1) _ := hr.mono hkx
    have hr1 : Room 1 _ := hr.mono (by omega)
    have hr2 : Room 2 _ := hr.mono hk
    refine ⟨_, pss_cons (ps_if (pt_not (pt_val (pe_callB call_isi (by rfl) TR.w.isi (by decide +kernel) (pa_cons (pv 0) (pa_cons (pe_bltn (v := .ty "str") (by rfl) ms (by decide +kernel) rfl) pa_nil))))) (pss_one (ps_err X rfl (takes_of rfl rfl rfl rfl) hrx (by rfl) (pa_cons (pv 0) pa_nil))) pss_nil)
      (pss_cons (ps_asg (pe_partition (pv 0) pe_str) (pg_tup (by rfl) (pgs_cons (pg_name (i := 1) nd rfl (Or.inl rfl)) (pgs_cons (pg_name (i := 2) nd rfl (Or.inl rfl)) (pgs_cons (pg_name (i := 3) nd rfl (Or.inl rfl)) pgs_nil)))))
      (C8.pss_cut (ps_if (pt_not (pt_truth (pv 2) (fun _ => rfl))) (pss_one (ps_set (i := 3) nd rfl (Or.inl rfl) pe_str)) pss_nil)
      (pss_cons (ps_if (PW.pt (pw_and (pt_val (pe_call GF hr1 (by rfl) mF kF bF .nil pass0 (pa_cons (pe_m1 PySem.F.slot_str_removeprefix PySem.F.type_str_removeprefix mt_removeprefix (pv 1) pe_str) pa_nil)))
          (pw_and1 (pt_val (pe_call GF hr1 (by rfl) mF kF bF .nil pass0 (pa_cons (pv 3) pa_nil))))))
        (pss_cons (ps_set (i := 4) nd rfl (Or.inl rfl) (pe_tup (pa_cons (pe_callTy call_int_str (by rfl) mi (by decide +kernel) (pa_cons (pv 1) pa_nil)) (pa_cons (pe_callTy call_int_str (by rfl) mi (by decide +kernel) (pa_cons (pv 3) pa_nil)) pa_nil))))
        (pss_one (ps_if (PW.pt (pw_and (pt_val (pe_call (ok_isRat FR FW TR mW bW) hr2 (by rfl) mR FR.kp bR .nil pass0 (pa_cons (pv 4) pa_nil))) (pw_and1 (pt_cmpR op_eq (pe_call GT hr (by rfl) mT kT bT .nil fn_passes (pa_cons (pv 4) pa_nil)) (pv 0) (nomark _)))))
          (pss_one (ps_ret (pv 4))) pss_nil))) pss_nil)
      (pss_one (ps_err X rfl (takes_of rfl rfl rfl rfl) hrx (by rfl) (pa_cons (pv 0) pa_nil)))))), ?_⟩
    cases hx0 : d with
    | str z =>
      subst hx0
      have hz : z.length ≤ 1000 := hlen z rfl
      have hxs : x = .str z := by cases hx; rfl
      subst hxs
      obtain ⟨a, b0, ha, hb0⟩ := cut_ex z.cps.toList
      have la : a.length ≤ 1000 ∧ b0.length ≤ 1000 ∨ a.length ≤ 1000 := by
        have : z.length = z.cps.toList.length := by simp [Str.length]
        rcases hb0 with e | ⟨e, _⟩
        · rw [e, List.length_append, List.length_cons] at this
          exact .inl ⟨by omega, by omega⟩
        · rw [e] at this
          exact .inr (by omega)
      have hla : a.length ≤ 1000 := by rcases la with h | h <;> first | exact h.1 | exact h
      refine ⟨_, rfl, _, _, _, _, true, rfl, .ty "str", .base (.str z), kit_ty (by decide +kernel), _, rfl, iteF ?_⟩
      refine ⟨_, rfl, ⟨_, rfl⟩, z, _, rfl, rfl, rfl, fits_line hz, fun T hT => ?_⟩
      have mT := same_upd (o := .tup [.str (Txt.partition z "/").1, .str (Txt.partition z "/").2.1, .str (Txt.partition z "/").2.2]) hT
      refine ⟨T, _, rfl, SqT.of upd_same, rfl, _, _, rfl, _, _, rfl, _, _, rfl, rfl, ?_⟩
      refine ⟨fun σ G => ∃ (s2 : V) (b : List Nat), σ = [some (.str z), some (.str (Tx a)), some s2, some (.str (Tx b)), none] ∧ Cut z.cps.toList a b ∧ b.length ≤ 1000 ∧ Same H G, ?_, ?_⟩
      · rcases hb0 with e | ⟨e, hl⟩
        · have hp : Txt.partition z "/" = (Tx a, ("/" : Str), Tx b0) := by
            have ez : z = Tx a ++ ("/" : Str) ++ Tx b0 := by
              refine TL.ext_tl ?_
              rw [TL.tl_append, TL.tl_append]
              show z.cps.toList = (a ++ [47]) ++ b0
              rw [e, List.append_assoc]
              rfl
            rw [ez]
            exact TL.partition_app (y := "/") (s := 47) (S := []) rfl ha
          have hb : b0.length ≤ 1000 := by
            have : z.length = z.cps.toList.length := by simp [Str.length]
            rw [e, List.length_append, List.length_cons] at this
            omega
          rw [hp] at mT ⊢
          exact ⟨_, rfl, _, ⟨(by show 1 ≤ sizeLine; decide), rfl⟩, iteF ⟨_, b0, rfl, ⟨ha, .inl e⟩, hb, mT⟩⟩
        · have hp : Txt.partition z "/" = (z, Str.empty, Str.empty) := TL.partition_none (y := "/") (s := 47) (S := []) rfl hl
          rw [hp] at mT ⊢
          have ez : z = Tx a := by rw [← e]
          refine ⟨_, rfl, _, ⟨(by show 0 ≤ sizeLine; decide), rfl⟩, iteT ⟨.str Str.empty, [49], ?_, ⟨ha, .inr ⟨e, rfl⟩⟩, by decide, mT⟩⟩
          rw [ez]
          rfl
      · rintro σ G ⟨s2, b, rfl, hcut, hb, sm⟩
        have no1 : (figB (strip a) && figB b) = false → ∀ t c, ¬ Reads (.str z) t c := fun hf t c hh => by
          obtain ⟨e1, e2⟩ := cut_of hcut hh.str
          have f1 : figB (strip a) = true := by
            rw [e1, strip_top]
            exact (figB_iff _).mpr ⟨TL.numL_digits _, TL.numL_ne _, num_60 hh.top⟩
          have f2 : figB b = true := by
            rw [e2]
            exact (figB_iff _).mpr ⟨TL.numL_digits _, TL.numL_ne _, num_60 hh.bot⟩
          rw [f1, f2] at hf
          cases hf
        refine ⟨_, rfl, ⟨_, rfl⟩, Tx a, _, rfl, rfl, fits_line (by rw [tx_len]; exact hla), strip a, by rw [prefix_strip]; rfl, ?_, _, rfl, ?_⟩
        · exact Nat.le_trans (strip_len a) hla
        cases f1 : figB (strip a) with
        | false => exact iteF (iteF ⟨_, rfl, mk_err (ds := [(.str z)]) rfl rfl (by decide) (.cons (Dp.same sm (.str z) _ hx) .nil) (fun d' hd' => by rw [List.mem_singleton.mp hd']; exact hf) fun dd H' sm2 ed => er (no1 (by rw [f1]; rfl)) dd H' ((sm).trans sm2) ed⟩)
        | true =>
          refine iteT ⟨_, rfl, b, rfl, hb, _, rfl, ?_⟩
          cases f2 : figB b with
          | false => exact iteF ⟨_, rfl, mk_err (ds := [(.str z)]) rfl rfl (by decide) (.cons (Dp.same sm (.str z) _ hx) .nil) (fun d' hd' => by rw [List.mem_singleton.mp hd']; exact hf) fun dd H' sm2 ed => er (no1 (by rw [f1, f2]; rfl)) dd H' ((sm).trans sm2) ed⟩
          | true =>
            obtain ⟨d1, n1, l1⟩ := (figB_iff _).mp f1
            obtain ⟨d2, n2, l2⟩ := (figB_iff _).mp f2
            obtain ⟨i1, i2, i3⟩ := int_strip d1 n1 l1
            have j0 : strip b = b := strip_of fun hh => by
              obtain ⟨r, e⟩ := head_45 hh
              have := d2 45 (by rw [e]; exact List.mem_cons_self)
              omega
            have jv : valS b = ((digitsVal b : Nat) : Int) := valS_pos fun hh => by
              obtain ⟨r, e⟩ := head_45 hh
              have := d2 45 (by rw [e]; exact List.mem_cons_self)
              omega
            obtain ⟨j1, j2, j3⟩ := int_strip (a := b) (by rw [j0]; exact d2) (by rw [j0]; exact n2) (by rw [j0]; exact l2)
            have back : ∀ t c, Reads (.str z) t c → valS a = t ∧ valS b = c := fun t c hh => by
              obtain ⟨e1, e2⟩ := cut_of hcut hh.str
              refine ⟨by rw [e1]; exact val_top t, ?_⟩
              rw [jv, e2, TL.numL_val]
              have := hh.str.pos
              omega
            refine iteT ⟨_, rfl, Tx a, _, rfl, i1, i2, _, rfl, Tx b, _, rfl, j1, j2, (by show 2 ≤ sizeLine; decide), fun T2 hT2 => ?_⟩
            have m2 := same_upd (o := .tup [.int (valS a), .int (valS b)]) hT2
            have dT : ∀ {G2 : Hp}, Same (upd G T2 (.tup [.int (valS a), .int (valS b)])) G2 → Dp K G2 (.ref T2) (.tuple [.int (valS a), .int (valS b)]) := fun {G2} sm3 => .tup (Same.tup sm3 (SqT.of upd_same)) (.cons (.int _) (.cons (.int _) .nil))
            refine ⟨_, rfl, .ref T2, .tuple [.int (valS a), .int (valS b)], rfl, dT (Same.refl _), _, rfl, ?_⟩
            cases r1 : isRat (.tuple [.int (valS a), .int (valS b)]) with
            | false =>
              have no2 : ∀ t c, ¬ Reads (.str z) t c := fun t c hh => by
                obtain ⟨e1, e2⟩ := back t c hh
                rw [e1, e2] at r1
                have p := hh.str
                have : isRat (.tuple [.int t, .int c]) = true := by
                  show (true && (true && (decide (1 ≤ c) && decide (Nat.gcd t.natAbs c.natAbs = 1)))) = true
                  rw [decide_eq_true p.pos, decide_eq_true p.low]
                  rfl
                rw [this] at r1
                cases r1
              exact iteF (iteF ⟨_, rfl, mk_err (ds := [(.str z)]) rfl rfl (by decide) (.cons (Dp.same (sm.trans m2) (.str z) _ hx) .nil) (fun d' hd' => by rw [List.mem_singleton.mp hd']; exact hf) fun dd H' sm2 ed => er no2 dd H' ((sm.trans m2).trans sm2) ed⟩)
            | true =>
              have ok : okR (.tuple [.int (valS a), .int (valS b)]) = true := by unfold okR; rw [r1, Bool.or_true]
              have hpos := okR_pos ok
              refine iteT ⟨_, rfl, .ref T2, _, rfl, dT (Same.refl _), hfit _ _, fun _ => ⟨i3, j3, fun H3 sm3 => ?_⟩, fun no => absurd (ok.symm.trans no) (by decide)⟩
              refine ⟨_, rfl, rfl, _, rfl, ite2 (fun h => ?_) (fun h => ?_)⟩
              · have e : Tx (textL (valS a) (valS b)) = z := V.str.inj (of_decide_eq_true h)
                have r2 : (true && (true && (decide (1 ≤ valS b) && decide (Nat.gcd (valS a).natAbs (valS b).natAbs = 1)))) = true := r1
                simp only [Bool.and_eq_true, decide_eq_true_eq, true_and] at r2
                refine ⟨_, rfl, q _ _ ⟨⟨z, rfl, ⟨r2.1, r2.2, ?_⟩⟩, i3, j3⟩ T2 H3 ((sm.trans m2).trans sm3) (Same.tup sm3 (SqT.of upd_same))⟩
                rw [← e]
              · have no3 : ∀ t c, ¬ Reads (.str z) t c := fun t c hh => by
                  obtain ⟨e1, e2⟩ := back t c hh
                  refine h (decide_eq_true ?_)
                  show V.str (Tx (textL (valS a) (valS b))) = V.str z
                  rw [e1, e2, ← hh.str.txt]
                exact ⟨_, rfl, mk_err (ds := [(.str z)]) rfl rfl (by decide) (.cons (Dp.same ((sm.trans m2).trans sm3) (.str z) _ hx) .nil) (fun d' hd' => by rw [List.mem_singleton.mp hd']; exact hf) fun dd H' sm2 ed => er no3 dd H' (((sm.trans m2).trans sm3).trans sm2) ed⟩
    | none =>
      subst hx0
      cases hx
      exact ⟨_, rfl, _, _, _, _, false, rfl, .ty "str", .base .non, kit_ty (by decide +kernel), _, rfl, iteT ⟨_, rfl, mk_err (ds := [_]) rfl rfl (by decide) (.cons (by first | exact .non | exact .bl _ | exact .int _) .nil) (fun d' hd' => by rw [List.mem_singleton.mp hd']; exact hf) fun dd H' sm2 ed => er (fun t b hh => by obtain ⟨z, e, _⟩ := hh.ex; cases e) dd H' (sm2) ed⟩⟩
    | bool v =>
      subst hx0
      cases hx
      exact ⟨_, rfl, _, _, _, _, false, rfl, .ty "str", .base (.bl v), kit_ty (by decide +kernel), _, rfl, iteT ⟨_, rfl, mk_err (ds := [_]) rfl rfl (by decide) (.cons (by first | exact .non | exact .bl _ | exact .int _) .nil) (fun d' hd' => by rw [List.mem_singleton.mp hd']; exact hf) fun dd H' sm2 ed => er (fun t b hh => by obtain ⟨z, e, _⟩ := hh.ex; cases e) dd H' (sm2) ed⟩⟩
    | int v =>
      subst hx0
      cases hx
      exact ⟨_, rfl, _, _, _, _, false, rfl, .ty "str", .base (.int v), kit_ty (by decide +kernel), _, rfl, iteT ⟨_, rfl, mk_err (ds := [_]) rfl rfl (by decide) (.cons (by first | exact .non | exact .bl _ | exact .int _) .nil) (fun d' hd' => by rw [List.mem_singleton.mp hd']; exact hf) fun dd H' sm2 ed => er (fun t b hh => by obtain ⟨z, e, _⟩ := hh.ex; cases e) dd H' (sm2) ed⟩⟩
    | list v =>
      subst hx0
      have hx2 := hx
      cases hx with
      | lst hs hd => exact ⟨_, rfl, _, _, _, _, false, rfl, .ty "str", tyx_list hs, kit_ty (by decide +kernel), _, rfl, iteT ⟨_, rfl, mk_err (ds := [_]) rfl rfl (by decide) (.cons hx2 .nil) (fun d' hd' => by rw [List.mem_singleton.mp hd']; exact hf) fun dd H' sm2 ed => er (fun t b hh => by obtain ⟨z, e, _⟩ := hh.ex; cases e) dd H' (sm2) ed⟩⟩
    | tuple v =>
      subst hx0
      have hx2 := hx
      cases hx with
      | tup hs hd => exact ⟨_, rfl, _, _, _, _, false, rfl, .ty "str", tyx_tup hs, kit_ty (by decide +kernel), _, rfl, iteT ⟨_, rfl, mk_err (ds := [_]) rfl rfl (by decide) (.cons hx2 .nil) (fun d' hd' => by rw [List.mem_singleton.mp hd']; exact hf) fun dd H' sm2 ed => er (fun t b hh => by obtain ⟨z, e, _⟩ := hh.ex; cases e) dd H' (sm2) ed⟩⟩
    | dict v =>
      subst hx0
      cases hx
end
end Lw

set_option maxRecDepth 100000
set_option linter.unusedVariables false
namespace Lw
open PySem PySem.Spec PyProof.Rows L2 VG
open TL (numL)
open NumText (AllDigits digitsVal)
theorem low_pos {t b : Int} (h : 0 < b) : 0 < (low t b).2 := by
  have hg : 0 < Nat.gcd t.natAbs b.natAbs := Nat.gcd_pos_of_pos_right _ (by omega)
  have hd : (Nat.gcd t.natAbs b.natAbs : Int) ∣ b := Int.ofNat_dvd_left.mpr (Nat.gcd_dvd_right _ _)
  show 0 < b / (Nat.gcd t.natAbs b.natAbs : Int)
  generalize Nat.gcd t.natAbs b.natAbs = g at hg hd ⊢
  exact Int.ediv_pos_of_pos_of_dvd h (by omega) hd
theorem low_abs {t b : Int} : (low t b).1.natAbs ≤ t.natAbs ∧ (low t b).2.natAbs ≤ b.natAbs := ⟨Int.natAbs_ediv_le_natAbs t _, Int.natAbs_ediv_le_natAbs b _⟩
/-- a pair of numbers in a tuple -/
def PairAt (K : PySem.W.Frag) (H : Hp) (v : V) (s : Int × Int) : Prop := ∃ T, v = .ref T ∧ SqT K H T [.int s.1, .int s.2]
theorem PairAt.same {K : PySem.W.Frag} {H H' : Hp} {v : V} {s : Int × Int} (e : Same H H') (h : PairAt K H v s) : PairAt K H' v s := by
  obtain ⟨T, h1, h2⟩ := h
  exact ⟨T, h1, Same.tup e h2⟩
/-- all but p is still there -/
def Ex (p : Addr) (H H' : Hp) : Prop := ∀ b o, b ≠ p → H b = some o → H' b = some o
theorem Ex.refl {p : Addr} {H : Hp} : Ex p H H := fun _ _ _ e => e
theorem Ex.trans {p : Addr} {H H1 H2 : Hp} (a : Ex p H H1) (b : Ex p H1 H2) : Ex p H H2 := fun c o n e => b c o n (a c o n e)
theorem Ex.of {p : Addr} {H H' : Hp} (a : But p H H') : Ex p H H' := fun b o n e => (a b n).trans e
theorem Ex.sm {p : Addr} {H H' : Hp} (a : Same H H') : Ex p H H' := fun b o _ e => a b o e
theorem Src.on {H H' : Hp} {p q : Addr} {cells : List Int} (s : Src H p q cells) (e : Same H H') : Src H' p q cells := by
  obtain ⟨⟨i, c, sd, n, h1, h2, h3⟩, h4, h5, h6⟩ := s
  exact ⟨⟨i, c, sd, n, e _ _ h1, h2, h3⟩, e _ _ h4, h5, h6⟩
theorem Src.at' {H : Hp} {p q : Addr} {cells : List Int} (h : Src H p q cells) : ∃ o, H p = some o := let ⟨_, _, _, _, e, _⟩ := h.ex; ⟨_, e⟩
/-- data on new addresses stand while all but p stays -/
theorem newer_ex {p q : Addr} {cells : List Int} {H H1 H2 : Hp} (s : Src H p q cells) (e : Ex p H1 H2) : Same (newer H H1) (newer H H2) := newer_mono (fun _ z => z) fun b z o h => e b o (fun y => by
  obtain ⟨u, hu⟩ := s.at'
  rw [y, hu] at z
  cases z) h
theorem low_rat {t b : Int} (h : 0 < b) : isRat (.tuple [.int (low t b).1, .int (low t b).2]) = true := by
  have hg : 0 < Nat.gcd t.natAbs b.natAbs := Nat.gcd_pos_of_pos_right _ (by omega)
  have d1 : (Nat.gcd t.natAbs b.natAbs : Int) ∣ t := Int.ofNat_dvd_left.mpr (Nat.gcd_dvd_left _ _)
  have d2 : (Nat.gcd t.natAbs b.natAbs : Int) ∣ b := Int.ofNat_dvd_left.mpr (Nat.gcd_dvd_right _ _)
  have e1 : (low t b).1.natAbs = t.natAbs / Nat.gcd t.natAbs b.natAbs := by
    show (t / (Nat.gcd t.natAbs b.natAbs : Int)).natAbs = _
    rw [Int.natAbs_ediv_of_dvd d1, Int.natAbs_natCast]
  have e2 : (low t b).2.natAbs = b.natAbs / Nat.gcd t.natAbs b.natAbs := by
    show (b / (Nat.gcd t.natAbs b.natAbs : Int)).natAbs = _
    rw [Int.natAbs_ediv_of_dvd d2, Int.natAbs_natCast]
  show (true && (true && (decide (1 ≤ (low t b).2) && decide (Nat.gcd (low t b).1.natAbs (low t b).2.natAbs = 1)))) = true
  have g1 : Nat.gcd (low t b).1.natAbs (low t b).2.natAbs = 1 := by
    rw [e1, e2]
    exact Nat.gcd_div_gcd_div_gcd_of_pos_right (by omega)
  rw [decide_eq_true (show 1 ≤ (low t b).2 by have := low_pos (t := t) h; omega), decide_eq_true g1]
  rfl
def ratT (s : Int × Int) : PyData := .tuple [.int s.1, .int s.2]
/-- a pair of numbers in a tuple of its own, not at p -/
def PairF (p : Addr) (H : Hp) (v : V) (s : Int × Int) : Prop := ∃ T, v = .ref T ∧ T ≠ p ∧ H T = some (.tup [.int s.1, .int s.2])
theorem PairF.ex {p : Addr} {H H' : Hp} {v : V} {s : Int × Int} (e : Ex p H H') (h : PairF p H v s) : PairF p H' v s := by
  obtain ⟨T, h1, h2, h3⟩ := h
  exact ⟨T, h1, h2, e _ _ h2 h3⟩
theorem PairF.at_ {p : Addr} {K : PySem.W.Frag} {H : Hp} {v : V} {s : Int × Int} (h : PairF p H v s) : PairAt K H v s := by
  obtain ⟨T, h1, h2, h3⟩ := h
  exact ⟨T, h1, SqT.of h3⟩
section
variable {P : Program} {w : World} {K : PySem.W.Frag} {mg : Str → Option Value} {base : Heap}
/-- the law's own lowest terms, by Euclid -/
theorem scLow : FnScope ["_law_top", "_law_bottom", "_law_one", "_law_other"] ["_law_top", "_law_bottom"] (defScope s__law_low) := ⟨rfl, rfl, rfl, by decide +kernel, rfl, by decide +kernel, by decide +kernel⟩
theorem gcd_step {a b : Int} (ha : 0 ≤ a) (hb : 0 < b) : Nat.gcd b.natAbs (a % b).natAbs = Nat.gcd a.natAbs b.natAbs := by
  have e : (a % b).natAbs = a.natAbs % b.natAbs := by
    obtain ⟨m, rfl⟩ := Int.eq_ofNat_of_zero_le ha
    obtain ⟨n, rfl⟩ := Int.eq_ofNat_of_zero_le (Int.le_of_lt hb)
    rfl
  rw [e, Nat.gcd_comm a.natAbs b.natAbs, Nat.gcd_rec b.natAbs a.natAbs, Nat.gcd_comm]
theorem ok_low {f : Addr} {fd : FuncData} (F : Fun K "_law_low" "_law_low" s__law_low f fd) (mi : mg "int" = none) (ma : mg "abs" = none) : FnOk P w K mg base CX0 1 f fd ["_law_top", "_law_bottom"] spLowest := by
  refine F.ok scLow (fun vs H Q E h => ?_) (fun cdv A outer s H vs Q E hr h => ?_)
  · obtain ⟨t, b, rfl, _⟩ := h
    rfl
  · obtain ⟨t, b, rfl, hb, hs, q⟩ := h
    have nd := scLow.nd
    refine ⟨_, pss_cons (ps_par (i := 2) (j := 3) (by rfl) nd rfl rfl (by decide) rfl rfl (pa_cons (pe_callB call_abs (by rfl) ma (by decide +kernel) (pa_cons (pv 0) pa_nil)) (pa_cons (pv 1) pa_nil)) (by rfl))
      (pss_cons (ps_while PassesOwn.never (pt_cmpR op_gt (pv 3) pe_int (nomark _))
        (pss_one (ps_par (i := 2) (j := 3) (by rfl) nd rfl rfl (by decide) rfl rfl (pa_cons (pv 3) (pa_cons (pe_op op_mod (pe_callTy call_int1 (by rfl) mi (by decide +kernel) (pa_cons (pv 2) pa_nil)) (pv 3)) pa_nil)) (by rfl))))
      (pss_one (ps_ret (pe_tup (pa_cons (pe_op op_fdivW (pv 0) (pv 2)) (pa_cons (pe_op op_fdivW (pv 1) (pv 2)) pa_nil)))))), ?_⟩
    have ab : (if t < 0 then -t else t) = (t.natAbs : Int) := by
      by_cases z : t < 0
      · rw [if_pos z]; omega
      · rw [if_neg z]; omega
    refine ⟨_, rfl, t, rfl, _, rfl, _, _, rfl, ?_⟩
    refine while_by (fun σ G => G = H ∧ ∃ x y : Int, σ = [some (.int t), some (.int b), some (.int x), some (.int y)] ∧ 0 ≤ x ∧ 0 ≤ y ∧ Nat.gcd x.natAbs y.natAbs = Nat.gcd t.natAbs b.natAbs)
      (fun σ _ => match σ with | [_, _, _, some (.int y)] => y.natAbs | _ => 0) ⟨rfl, _, _, rfl, by rw [ab]; omega, by omega, by rw [ab]; rfl⟩ ?_ ?_
    · rintro σ G ⟨rfl, x, y, rfl, hx, hy, hg⟩
      refine ⟨_, rfl, _, _, rfl, rfl, _, rfl, ?_⟩
      refine ite2 (fun hlt => ?_) (fun hge => ?_)
      · have hlt : (0 : Int) < y := of_decide_eq_true hlt
        refine ⟨_, rfl, _, rfl, .inl ⟨_, rfl, _, rfl, _, _, rfl, rfl, hlt, _, _, rfl, ⟨rfl, y, x % y, rfl, hy, Int.emod_nonneg _ (by omega), (gcd_step hx hlt).trans hg⟩, ?_⟩⟩
        show (x % y).natAbs < y.natAbs
        have h1 := Int.emod_lt_of_pos x hlt
        have h2 := Int.emod_nonneg x (show y ≠ 0 by omega)
        omega
      · have hy0 : y = 0 := by
          have z : ¬ (0 : Int) < y := fun z => hge (decide_eq_true z)
          omega
        subst hy0
        have e : x = (Nat.gcd t.natAbs b.natAbs : Nat) := by
          rw [← hg, show (0 : Int).natAbs = 0 from rfl, Nat.gcd_zero_right]
          omega
        obtain ⟨c1, c2⟩ := gcd_fits (t := t) hb hs
        subst e
        refine ⟨_, rfl, _, rfl, _, _, rfl, rfl, c1, _, rfl, _, rfl, _, _, rfl, rfl, c2, small_line (by show 2 ≤ 1000; decide), fun T hT => q T hT⟩
    · rintro σ G Q1 Q2 hq ⟨v, e1, i, j, e2, e3, k, e4, z⟩
      exact ⟨v, e1, i, j, e2, e3, k, e4, hq _ _ z⟩
/-- a drawn ratio -/
def spWide (K : PySem.W.Frag) : Sp := fun vs H Q _ => ∃ (p q : Addr) (cells : List Int), vs = [.ref p] ∧ Src H p q cells ∧ ∀ (v : V) (s : Int × Int) (H' : Hp), PairF p H' v s → isRat (ratT s) = true → (s.1.natAbs < 10 ^ 18 + 1 ∧ s.2.natAbs < 10 ^ 18 + 1) → Src H' p q cells → Ex p H H' → Q v H'
theorem scWide : FnScope ["_law_src"] ["_law_src"] (defScope s__law_wide) := ⟨rfl, rfl, rfl, by decide +kernel, rfl, by decide +kernel, by decide +kernel⟩
theorem ok_wide {f fD fL : Addr} {fd fdD fdL : FuncData} (F : Fun K "_law_wide" "_law_wide" s__law_wide f fd) (GD : FnOk P w K mg base CX0 1 fD fdD ["_law_src", "_law_many"] spDraw) (mD : mg "_law_draw" = some (.ref fD)) (kD : PySem.W.keepIn K (.ref fD) = true) (bD : Binds K fdD ["_law_src", "_law_many"] [])
    (GL : FnOk P w K mg base CX0 1 fL fdL ["_law_top", "_law_bottom"] spLowest) (mL : mg "_law_low" = some (.ref fL)) (kL : PySem.W.keepIn K (.ref fL) = true) (bL : Binds K fdL ["_law_top", "_law_bottom"] []) : FnOk P w K mg base CX0 2 f fd ["_law_src"] (spWide K) := by
  refine F.ok scWide (fun vs H Q E h => ?_) (fun cdv A outer s H vs Q E hr h => ?_)
  · obtain ⟨p, q, cells, rfl, _⟩ := h
    rfl
  · obtain ⟨p, q, cells, rfl, hS, k⟩ := h
    have nd := scWide.nd
    refine ⟨_, pss_cons (ps_if (pt_cmpR op_gt (pe_call GD hr (by rfl) mD kD bD .nil pass0 (pa_cons (pv 0) (pa_cons pe_int pa_nil))) pe_int (nomark _))
        (pss_one (ps_ret (pe_call GL hr (by rfl) mL kL bL .nil pass0 (pa_cons (pe_op op_sub (pe_call GD hr (by rfl) mD kD bD .nil pass0 (pa_cons (pv 0) (pa_cons pe_int pa_nil))) pe_int) (pa_cons (pe_op op_add pe_int (pe_call GD hr (by rfl) mD kD bD .nil pass0 (pa_cons (pv 0) (pa_cons pe_int pa_nil)))) pa_nil))))) pss_nil)
      (pss_one (ps_ret (pe_call GL hr (by rfl) mL kL bL .nil pass0 (pa_cons (pe_op op_sub (pe_call GD hr (by rfl) mD kD bD .nil pass0 (pa_cons (pv 0) (pa_cons (pe_op op_pow pe_int pe_int) pa_nil))) (pe_op op_pow pe_int pe_int))
        (pa_cons (pe_op op_add pe_int (pe_call GD hr (by rfl) mD kD bD .nil pass0 (pa_cons (pv 0) (pa_cons (pe_op op_pow pe_int pe_int) pa_nil)))) pa_nil))))), ?_⟩
    have fin : ∀ {t b : Int} {G : Hp} {T : Addr}, t.natAbs < 10 ^ 18 + 1 → b.natAbs < 10 ^ 18 + 1 → 0 < b → Src G p q cells → But p H G → G T = none → Q (.ref T) (upd G T (.tup [.int (low t b).1, .int (low t b).2])) := fun {t b G T} ht hb hp sG bG hT => by
      have nT : T ≠ p := fun z => by
        obtain ⟨u, hu⟩ := sG.at'
        rw [z, hu] at hT
        cases hT
      exact k _ (low t b) _ ⟨T, rfl, nT, upd_same⟩ (low_rat hp) ⟨Nat.lt_of_le_of_lt low_abs.1 ht, Nat.lt_of_le_of_lt low_abs.2 hb⟩ (sG.on (same_upd hT)) ((Ex.of bG).trans (Ex.sm (same_upd hT)))
    have big : ∀ {n : Nat}, n < 10 ^ 18 + 1 → n < 2 ^ 8000 := fun {n} h => Nat.lt_of_lt_of_le h (Nat.le_of_lt (by decide +kernel))
    refine ⟨_, rfl, p, q, cells, 3, rfl, hS, by decide, by decide, fun d1 G1 a1 c1 S1 B1 => ?_⟩
    refine ⟨_, _, rfl, rfl, _, rfl, ite2 (fun _ => ?_) (fun _ => ?_)⟩
    · refine ⟨_, rfl, p, q, cells, 25, rfl, S1, by decide, by decide, fun d2 G2 a2 c2 S2 B2 => ?_⟩
      refine ⟨_, _, rfl, rfl, _, rfl, p, q, cells, 7, rfl, S2, by decide, by decide, fun d3 G3 a3 c3 S3 B3 => ?_⟩
      refine ⟨_, _, rfl, rfl, _, _, rfl, by omega, big (by omega), fun T hT => fin (by omega) (by omega) (by omega) S3 ((B1.trans B2).trans B3) hT⟩
    · refine ⟨_, rfl, _, _, rfl, rfl, ⟨by decide, by decide, by decide⟩, p, q, cells, 10 ^ 18, rfl, S1, by decide, by decide, fun d2 G2 a2 c2 S2 B2 => ?_⟩
      refine ⟨_, _, rfl, rfl, ⟨by decide, by decide, by decide⟩, _, _, rfl, rfl, _, rfl, _, _, rfl, rfl, ⟨by decide, by decide, by decide⟩, p, q, cells, 10 ^ 18, rfl, S2, by decide, by decide, fun d3 G3 a3 c3 S3 B3 => ?_⟩
      have e17 : ((10 : Int) ^ (17 : Int).toNat) = 100000000000000000 := by decide
      refine ⟨_, _, rfl, rfl, _, _, rfl, by omega, big (by omega), fun T hT => fin (by omega) (by omega) (by omega) S3 ((B1.trans B2).trans B3) hT⟩
/-- the law's own texts -/
theorem scPairL : FnScope ["_law_value_z"] ["_law_value_z"] (defScope s__law_pair) := ⟨rfl, rfl, rfl, by decide +kernel, rfl, by decide +kernel, by decide +kernel⟩
def spPairL (K : PySem.W.Frag) : Sp := fun vs H Q _ => ∃ (T : Addr) (s : Int × Int), vs = [.ref T] ∧ SqT K H T [.int s.1, .int s.2] ∧ Q (.ref T) H
theorem ok_pairL {f : Addr} {fd : FuncData} (F : Fun K "_law_pair" "_law_pair" s__law_pair f fd) (T : NmW mg) : FnOk P w K mg base CX0 1 f fd ["_law_value_z"] (spPairL K) := by
  refine F.ok scPairL (fun vs H Q E h => ?_) (fun cdv A outer s H vs Q E hr h => ?_)
  · obtain ⟨T, s, rfl, _⟩ := h
    rfl
  · obtain ⟨T0, s0, rfl, hT, q⟩ := h
    refine ⟨_, pss_one (ps_ret (pe_ifExp (pt_val (pe_callB call_isi (by rfl) T.isi (by decide +kernel) (pa_cons (pv 0) (pa_cons (pe_bltn (v := .ty "int") (by rfl) T.int (by decide +kernel) rfl) pa_nil)))) (pe_tup (pa_cons (pv 0) (pa_cons pe_int pa_nil))) (pv 0))), ?_⟩
    exact ⟨_, rfl, _, _, _, _, false, rfl, .ty "int", tyx_tup hT, kit_ty (by decide +kernel), _, rfl, iteF ⟨_, rfl, q⟩⟩
theorem scTextL : FnScope ["_law_value_z", "_law_top", "_law_bottom"] ["_law_value_z"] (defScope s__law_text) := ⟨rfl, rfl, rfl, by decide +kernel, rfl, by decide +kernel, by decide +kernel⟩
def spTextL (K : PySem.W.Frag) : Sp := fun vs H Q _ => ∃ (T : Addr) (s : Int × Int), vs = [.ref T] ∧ SqT K H T [.int s.1, .int s.2] ∧ s.1.natAbs < 10 ^ 60 ∧ s.2.natAbs < 10 ^ 60 ∧ 1 ≤ s.2 ∧ Q (.str (Tx (textL s.1 s.2))) H
theorem top_60 {t : Int} (h : t.natAbs < 10 ^ 60) : (topL t).length ≤ 61 := by
  have l := num_60 h
  unfold topL
  rw [List.length_append]
  split <;> simp <;> omega
theorem text_60 {t b : Int} (h : t.natAbs < 10 ^ 60) (g : b.natAbs < 10 ^ 60) : (textL t b).length ≤ 122 := by
  have l := num_60 g
  have m := top_60 h
  unfold textL
  rw [List.length_append]
  split <;> simp <;> omega
theorem ok_textL {f fP : Addr} {fd fdP : FuncData} (F : Fun K "_law_text" "_law_text" s__law_text f fd) (ti : mg "isinstance" = none) (ts : mg "str" = none) (GP : FnOk P w K mg base CX0 1 fP fdP ["_law_value_z"] (spPairL K)) (mP : mg "_law_pair" = some (.ref fP)) (kP : PySem.W.keepIn K (.ref fP) = true) (bP : Binds K fdP ["_law_value_z"] []) :
    FnOk P w K mg base CX0 2 f fd ["_law_value_z"] (spTextL K) := by
  refine F.ok scTextL (fun vs H Q E h => ?_) (fun cdv A outer s H vs Q E hr h => ?_)
  · obtain ⟨T, s, rfl, _⟩ := h
    rfl
  · obtain ⟨T0, ⟨t, b⟩, rfl, hT, b1, b2, hp, q⟩ := h
    dsimp only at *
    have nd := scTextL.nd
    refine ⟨_, pss_cons (ps_if (pt_val (pe_callB call_isi (by rfl) ti (by decide +kernel) (pa_cons (pv 0) (pa_cons (pe_bltn (v := .ty "str") (by rfl) ts (by decide +kernel) rfl) pa_nil)))) (pss_one (ps_ret (pv 0))) pss_nil)
      (pss_cons (ps_asg (pe_call GP hr (by rfl) mP kP bP .nil pass0 (pa_cons (pv 0) pa_nil)) (pg_tup (by rfl) (pgs_cons (pg_name (i := 1) nd rfl (Or.inl rfl)) (pgs_cons (pg_name (i := 2) nd rfl (Or.inl rfl)) pgs_nil))))
      (pss_one (ps_ret (pe_ifExp (pt_cmpR op_eq (pv 2) pe_int (nomark _)) (pe_callTy call_str_int (by rfl) ts (by decide +kernel) (pa_cons (pv 1) pa_nil))
        (pe_op op_add_str (pe_op op_add_str (pe_callTy call_str_int (by rfl) ts (by decide +kernel) (pa_cons (pv 1) pa_nil)) pe_str) (pe_callTy call_str_int (by rfl) ts (by decide +kernel) (pa_cons (pv 2) pa_nil))))))), ?_⟩
    have l1 : t.natAbs.log2 < 1920 := PySem.Flt.log2_lt_of (by decide) (Nat.lt_of_lt_of_le b1 (by decide))
    have l2 : b.natAbs.log2 < 1920 := PySem.Flt.log2_lt_of (by decide) (Nat.lt_of_lt_of_le b2 (by decide))
    refine ⟨_, rfl, _, _, _, _, false, rfl, .ty "str", tyx_tup hT, kit_ty (by decide +kernel), _, rfl, iteF ?_⟩
    refine ⟨_, rfl, T0, (t, b), rfl, hT, T0, _, rfl, hT, rfl, _, _, rfl, _, _, rfl, rfl, ?_⟩
    refine ⟨_, rfl, rfl, _, rfl, ite2 (fun h => ?_) (fun h => ?_)⟩
    · have h : b = 1 := V.int.inj (of_decide_eq_true h)
      refine ⟨_, rfl, t, rfl, l1, ?_⟩
      rw [str_int]
      have e : textL t b = topL t := by
        unfold textL
        rw [if_pos h, List.append_nil]
      rw [← e]
      exact q
    · have h : b ≠ 1 := fun z => h (decide_eq_true (by rw [z]))
      have k1 := top_60 b1
      have k2 := num_60 b2
      refine ⟨_, rfl, t, rfl, l1, _, _, rfl, rfl, ?_, _, rfl, b, rfl, l2, _, _, rfl, rfl, ?_, ?_⟩
      · refine fits_line ?_
        rw [str_int, tx_len]
        show _ + 1 ≤ 1000
        omega
      · refine fits_line ?_
        rw [str_int, str_int]
        have e1 : Tx (topL t) ++ (Str.ofString "/") = Tx (topL t ++ [47]) := tx_app _ [47]
        rw [e1, tx_len, tx_len, List.length_append]
        have := top_60 b2
        simp
        omega
      · rw [str_int, str_int]
        have e1 : Tx (topL t) ++ (Str.ofString "/") = Tx (topL t ++ [47]) := tx_app _ [47]
        rw [e1, tx_app]
        have e : textL t b = topL t ++ [47] ++ topL b := by
          unfold textL
          rw [if_neg h, List.append_assoc]
          have : topL b = numL b.natAbs := by
            unfold topL
            rw [if_neg (by omega)]
            rfl
          rw [this]
          rfl
        rw [← e]
        exact q
end
end Lw

set_option maxRecDepth 100000
set_option linter.unusedVariables false
namespace Lw
open PySem PySem.Spec PyProof.Rows L2 VG
open TL (numL)
open NumText (AllDigits digitsVal)
/-! ### the law's own reading -/
def dig (c : Nat) : Bool := decide (48 ≤ c ∧ c ≤ 57)
/-- figures without a needless zero -/
def canB (l : List Nat) : Bool := decide (l ≠ []) && ((l.filter fun c => !dig c).isEmpty && (decide (l = [48]) || decide (l.head? ≠ some 48)))
theorem canB_iff (l : List Nat) : canB l = true ↔ l ≠ [] ∧ AllDigits l ∧ NoZ l := by
  unfold canB NoZ
  simp only [Bool.and_eq_true, Bool.or_eq_true, decide_eq_true_eq, List.isEmpty_iff, List.filter_eq_nil_iff, Bool.not_eq_true', dig, decide_eq_false_iff_not, Decidable.not_not]
  rfl
theorem can_num (n : Nat) : canB (numL n) = true := (canB_iff _).mpr ⟨TL.numL_ne n, TL.numL_digits n, num_noz n⟩
theorem can_back {l : List Nat} (h : canB l = true) : numL (digitsVal l) = l := by
  obtain ⟨h1, h2, h3⟩ := (canB_iff l).mp h
  exact num_back _ l rfl h2 h1 h3
theorem dig_in : ∀ c, c < 128 → decide (c ∈ ("0123456789" : Str).cps.toList) = dig c := by decide +kernel
def sg (c : Nat) : V := .str ⟨#[c]⟩
def sgD (c : Nat) : PyData := .str ⟨#[c]⟩
theorem sg_dp {K : PySem.W.Frag} {H : Hp} : ∀ cs : List Nat, DpAll K H (cs.map sg) (cs.map sgD)
  | [] => .nil
  | c :: r => .cons (.str _) (sg_dp r)
theorem sg_lay : ∀ cs : List Nat, (∀ c ∈ cs, c < 128) → PyData.canLayAll0 (cs.map sgD) = true ∧ PyData.depthAll (cs.map sgD) = 0
  | [], _ => ⟨rfl, rfl⟩
  | c :: r, h => by
    obtain ⟨a, b⟩ := sg_lay r fun d hd => h d (List.mem_cons_of_mem _ hd)
    have z := h c List.mem_cons_self
    have z2 : PyData.strOk (⟨#[c]⟩ : Str) = true := by simp [PyData.strOk]; omega
    simp only [List.map_cons, PyData.canLayAll0, PyData.depthAll, a, b, sgD, PyData.canLay0, PyData.depth, z2, Bool.and_self, Nat.max_self, and_self]
theorem sg_shaped {cs : List Nat} (h : ∀ c ∈ cs, c < 128) : SeqAt.shaped (.list (cs.map sgD)) = true := by
  obtain ⟨a, b⟩ := sg_lay cs h
  show (PyData.canLay0 (.list (cs.map sgD)) && decide (PyData.depth (.list (cs.map sgD)) ≤ 64)) = true
  simp only [PyData.canLay0, PyData.depth, a, b]
  rfl
theorem sg_nil : ∀ cs : List Nat, PyData.eqv (.list (cs.map sgD)) (.list []) = cs.isEmpty
  | [] => by simp [PyData.eqv, PyData.eqvAll]
  | c :: r => by simp [PyData.eqv, PyData.eqvAll]
section
variable {P : Program} {w : World} {K : PySem.W.Frag} {mg : Str → Option Value} {base : Heap}
abbrev NF : List Str := ["_law_text_z", "_law_sign"]
theorem scFigL : FnScope NF ["_law_text_z"] (defScope s__law_figures) := ⟨rfl, rfl, rfl, by decide +kernel, rfl, by decide +kernel, by decide +kernel⟩
def spFigL : Sp := fun vs H Q _ => ∃ l : List Nat, vs = [.str (Tx l)] ∧ l.length ≤ 600 ∧ (∀ c ∈ l, c < 128) ∧ ∀ H', Same H H' → Q (.bl (canB l)) H'
theorem strV_ne {x y : Str} : decide (V.str x = V.str y) = decide (x = y) := by
  by_cases z : x = y
  · rw [z, decide_eq_true rfl, decide_eq_true rfl]
  · rw [decide_eq_false z, decide_eq_false fun y => z (V.str.inj y)]
theorem tx_dec {a b : List Nat} : decide (V.str (Tx a) = V.str (Tx b)) = decide (a = b) := by
  by_cases z : a = b
  · rw [z, decide_eq_true rfl, decide_eq_true rfl]
  · rw [decide_eq_false z, decide_eq_false fun y => z (tx_inj (V.str.inj y))]
theorem ok_figL {f : Addr} {fd : FuncData} (F : Fun K "_law_figures" "_law_figures" s__law_figures f fd) : FnOk P w K mg base CX0 1 f fd ["_law_text_z"] spFigL := by
  refine F.ok scFigL (fun vs H Q E h => ?_) (fun cdv A outer s H vs Q E hr h => ?_)
  · obtain ⟨l, rfl, _⟩ := h
    rfl
  · obtain ⟨l, rfl, hl, h128, k⟩ := h
    have nd := scFigL.nd
    refine ⟨_, pss_one (ps_ret (pe_and (pe_cmpR op_ne (pv 0) pe_str (nomark _)) (pe_and
      (pe_cmpR (op_eqD hr.units) (pe_lc (own := [("_law_sign", 1)]) (g := gName 1) rfl nd (pi_str (pv 0)) (blkOk_by (own := [("_law_sign", 1)]) (N := NF) (sc := defScope s__law_figures) (by decide +kernel)) (fun _ _ _ _ _ => pg_name (i := 1) nd rfl (Or.inl rfl))
              (fun _ _ _ _ _ => pts_one (pt_cmpR op_notIn_sign (pv 1) pe_str (by rfl))) (fun _ _ _ _ _ => pv 1)) (pe_lst pa_nil) (nomark _))
      (pe_one (pe_or (pe_cmpR op_eq (pv 0) pe_str (nomark _)) (pe_one (pe_cmpR op_ne (pe_ix ix_str (pv 0) pe_int fun _ _ => rfl) pe_str (nomark _)))))))), ?_⟩
    unfold canB at k
    refine ⟨_, rfl, rfl, _, rfl, ?_⟩
    have e0 : decide (V.str (Tx l) = V.str (Str.ofString "")) = decide (l = []) := tx_dec (b := [])
    rw [e0]
    by_cases h0 : l = []
    · have k := k H (Same.refl H)
      rw [decide_eq_false (fun z => z h0)] at k
      rw [decide_eq_true h0]
      exact iteF k
    · rw [decide_eq_true (show l ≠ [] from h0)] at k
      rw [decide_eq_false h0]
      refine iteT ?_
      refine ⟨_, rfl, Tx l, rfl, fun D hD => ?_⟩
      refine lc_it walk_str (fun i H' => H' D = some (.lst (((l.take i).filter fun c => !dig c).map sg)) ∧ ∀ b o, H b = some o → H' b = some o) ⟨upd_same, fun b o e => by rw [upd_ne (ne_of_none e hD)]; exact e⟩ (fun _ _ _ _ => trivial) ?_ ?_
      · rintro i x H4 H5 hi ⟨hD4, S4⟩ ⟨rfl, c, hc5, rfl⟩
        have hci : l[i]? = some c := by
          have z : (Tx l).cps[i]? = some c := hc5
          simpa using z
        have tk : l.take (i + 1) = l.take i ++ [c] := by rw [List.take_add_one, hci]; rfl
        have c128 := h128 c (List.mem_of_getElem? hci)
        refine ⟨rfl, _, rfl, c, _, rfl, rfl, _, rfl, ?_⟩
        rw [tk, List.filter_append]
        refine ite2 (fun hb => ?_) (fun hb => ?_)
        · have hb' : (!dig c) = true := by
            rw [← dig_in c c128]
            exact hb
          have e1 : ([c].filter fun c => !dig c) = [c] := by rw [List.filter_cons, if_pos hb']; rfl
          rw [e1, List.map_append]
          refine ⟨_, rfl, _, hD4, ?_, upd_same, fun b o e => ?_⟩
          · rw [List.length_map]
            have z1 := List.length_filter_le (fun c => !dig c) (l.take i)
            have z2 := List.length_take_le' i l
            exact Nat.lt_of_le_of_lt (show _ ≤ 600 by omega) (by decide)
          · rw [upd_ne (ne_of_none e hD)]
            exact S4 b o e
        · have hb' : ¬ (!dig c) = true := by
            rw [← dig_in c c128]
            exact hb
          have e1 : ([c].filter fun c => !dig c) = [] := by rw [List.filter_cons, if_neg hb']; rfl
          rw [e1, List.append_nil]
          exact ⟨hD4, S4⟩
      · rintro H4 ⟨hD4, S4⟩
        have tk : l.take (Tx l).cps.size = l := List.take_of_length_le (by simp)
        rw [tk] at hD4
        refine ⟨by show 0 ≤ sizeLine; decide, fun p2 hp2 => ⟨.list ((l.filter fun c => !dig c).map sgD), .list [], ?_, .lst (SqL.of upd_same) .nil, ?_, by decide +kernel, ?_⟩⟩
        · exact .lst (SqL.of ((upd_ne (ne_of_none hD4 hp2)).trans hD4)) (sg_dp _)
        · exact sg_shaped fun c hc5 => h128 c (List.mem_filter.mp hc5).1
        · rw [sg_nil]
          have sm : Same H (upd H4 p2 (.lst [])) := Same.trans S4 (same_upd hp2)
          cases e1 : (l.filter fun c => !dig c).isEmpty with
          | false =>
            have k := k _ sm
            rw [e1] at k
            exact ⟨_, rfl, iteF k⟩
          | true =>
            have k := k _ sm
            rw [e1] at k
            refine ⟨_, rfl, iteT ⟨_, rfl, rfl, _, rfl, ?_⟩⟩
            have e2 : decide (V.str (Tx l) = V.str (Str.ofString "0")) = decide (l = [48]) := tx_dec (b := [48])
            rw [e2]
            by_cases h1 : l = [48]
            · rw [decide_eq_true h1] at k ⊢
              exact iteT k
            · rw [decide_eq_false h1] at k ⊢
              obtain ⟨c, r, rfl⟩ : ∃ c r, l = c :: r := by
                cases l with
                | nil => exact absurd rfl h0
                | cons c r => exact ⟨c, r, rfl⟩
              refine iteF ⟨_, rfl, Tx (c :: r), 0, c, rfl, rfl, fits_line (by rw [tx_len]; omega), atI_nat (j := 0) (show (Tx (c :: r)).cps.toList[0]? = some c from rfl), rfl, ?_⟩
              have e3 : (!decide (V.str ⟨#[c]⟩ = V.str (Str.ofString "0"))) = decide ((c :: r).head? ≠ some 48) := by
                have e4 : decide (V.str ⟨#[c]⟩ = V.str (Str.ofString "0")) = decide ([c] = [48]) := tx_dec (a := [c]) (b := [48])
                rw [e4]
                by_cases hc : c = 48
                · rw [hc]; rfl
                · rw [decide_eq_false (fun z => hc (List.cons.inj z).1)]
                  exact (decide_eq_true (p := (c :: r).head? ≠ some 48) fun z => hc (Option.some.inj z)).symm
              have k : Q (.bl (true && (true && (false || decide ((c :: r).head? ≠ some 48))))) _ := k
              rw [← e3] at k
              exact k
end
end Lw

set_option maxRecDepth 100000
set_option linter.unusedVariables false
namespace Lw
open PySem PySem.Spec PyProof.Rows L2 VG
open TL (numL)
open NumText (AllDigits digitsVal)
theorem spl_no {l : List Nat} (h : 47 ∉ l) : TL.spl [47] 0 [] l = [l] := TL.spl_last1 h
theorem spl_yes {a b : List Nat} (h : 47 ∉ a) : TL.spl [47] 0 [] (a ++ 47 :: b) = a :: TL.spl [47] 0 [] b := TL.spl_part1 (S := []) h
theorem split_tx (l : List Nat) : Txt.split (Tx l) "/" = (TL.spl [47] 0 [] l).map Tx := SX.split_S (a := l) (b := [47]) (by simp) (by decide)
/-- the parts between slashes, one or two of them -/
structure Few (l a : List Nat) (m : List (List Nat)) : Prop where
  fa : 47 ∉ a
  fm : (m = [] ∧ l = a) ∨ ∃ b, m = [b] ∧ 47 ∉ b ∧ l = a ++ 47 :: b
  sp : Txt.split (Tx l) "/" = (a :: m).map Tx
theorem parts_of (l : List Nat) : (∃ a m, Few l a m) ∨ ∃ a b c r, 47 ∉ a ∧ 47 ∈ b ∧ l = a ++ 47 :: b ∧ Txt.split (Tx l) "/" = (a :: c :: r).map Tx ∧ 1 ≤ r.length ∧ r.length ≤ l.length := by
  obtain ⟨a, b, ha, e | ⟨e, hl⟩⟩ := cut_ex l
  · obtain ⟨c, d, hc, e2 | ⟨e2, hb⟩⟩ := cut_ex b
    · refine .inr ⟨a, b, c, TL.spl [47] 0 [] d, ha, by rw [e2]; exact List.mem_append_right _ List.mem_cons_self, e, ?_, ?_, ?_⟩
      · rw [split_tx, e, spl_yes ha, e2, spl_yes hc]
      · obtain ⟨x, y, hx, e3 | ⟨e3, hd⟩⟩ := cut_ex d
        · rw [e3, spl_yes hx]
          exact Nat.succ_le_succ (Nat.zero_le _)
        · rw [spl_no hd]
          exact Nat.le_refl _
      · have := PyProof.Rows.split_le (Tx d) "/"
        rw [split_tx, List.length_map, tx_len] at this
        rw [e, List.length_append, List.length_cons, e2, List.length_append, List.length_cons]
        omega
    · refine .inl ⟨a, [b], ha, .inr ⟨b, rfl, hb, e⟩, ?_⟩
      rw [split_tx, e, spl_yes ha, spl_no hb]
  · refine .inl ⟨a, [], ha, .inl ⟨rfl, e⟩, ?_⟩
    rw [split_tx, spl_no hl, e]
/-- the bottom that the parts behind the first tell -/
def lowV : List (List Nat) → Int
  | [] => 1
  | b :: _ => ((digitsVal b : Nat) : Int)
theorem few_isR {l a : List Nat} {m : List (List Nat)} {t c : Int} (f : Few l a m) (h : IsR t c l) : a = topL t ∧ ((m = [] ∧ c = 1) ∨ (m = [numL c.natAbs] ∧ c ≠ 1)) := by
  have e := h.txt
  unfold textL at e
  rcases f.fm with ⟨hm, hl⟩ | ⟨b, hm, hb, hl⟩
  · by_cases h1 : c = 1
    · rw [if_pos h1, List.append_nil] at e
      exact ⟨hl.symm.trans e, .inl ⟨hm, h1⟩⟩
    · rw [if_neg h1] at e
      exact absurd (by rw [← hl, e]; exact List.mem_append_right _ List.mem_cons_self) f.fa
  · by_cases h1 : c = 1
    · rw [if_pos h1, List.append_nil] at e
      exact absurd (by rw [← e, hl]; exact List.mem_append_right _ List.mem_cons_self) (top_47 t)
    · rw [if_neg h1, hl] at e
      obtain ⟨e1, e2⟩ := cut_one f.fa (top_47 t) e
      exact ⟨e1, .inr ⟨by rw [hm, e2], h1⟩⟩
theorem few_can {l a : List Nat} {m : List (List Nat)} {t c : Int} (f : Few l a m) (h : IsR t c l) : (strip a :: m).any (fun z => !canB z) = false := by
  obtain ⟨rfl, ⟨rfl, _⟩ | ⟨rfl, _⟩⟩ := few_isR f h
  · show (!canB (strip (topL t)) || false) = false
    rw [strip_top, can_num]
    rfl
  · show (!canB (strip (topL t)) || (!canB (numL c.natAbs) || false)) = false
    rw [strip_top, can_num, can_num]
    rfl
theorem few_val {l a : List Nat} {m : List (List Nat)} {t c : Int} (f : Few l a m) (h : IsR t c l) : valS a = t ∧ lowV m = c := by
  have hp := h.pos
  obtain ⟨rfl, ⟨rfl, hc⟩ | ⟨rfl, _⟩⟩ := few_isR f h
  · exact ⟨val_top t, hc.symm⟩
  · refine ⟨val_top t, ?_⟩
    show ((digitsVal (numL c.natAbs) : Nat) : Int) = c
    rw [TL.numL_val]
    omega
theorem strip_minus {a : List Nat} (h : strip a ≠ a) : a = 45 :: strip a := by
  by_cases h45 : a.head? = some 45
  · obtain ⟨r, rfl⟩ := head_45 h45
    rfl
  · exact absurd (strip_of h45) h
theorem strip_head {a : List Nat} (h : AllDigits (strip a)) (e : strip a = a) : a.head? ≠ some 45 := fun z => by
  obtain ⟨r, rfl⟩ := head_45 z
  have e : r = 45 :: r := e
  have := congrArg List.length e
  simp at this
/-- where all parts are figures and nothing is against it -/
theorem few_back {l a : List Nat} {m : List (List Nat)} (f : Few l a m) (hc : (strip a :: m).any (fun z => !canB z) = false) (h0 : lowV m ≠ 0) (h1 : m ≠ [] → lowV m ≠ 1) (h2 : valS a = 0 → strip a = a ∧ m = []) (hg : Nat.gcd (valS a).natAbs (lowV m).natAbs = 1) : IsR (valS a) (lowV m) l := by
  have hs : canB (strip a) = true := by
    rw [List.any_cons, Bool.or_eq_false_iff] at hc
    simpa using hc.1
  have hm : ∀ b ∈ m, canB b = true := fun b hb => by
    rw [List.any_cons, Bool.or_eq_false_iff] at hc
    have := List.any_eq_false.mp hc.2 b hb
    simpa using this
  have top : a = topL (valS a) := by
    have hd := ((canB_iff _).mp hs).2.1
    have hb := can_back hs
    by_cases e : strip a = a
    · have hh := strip_head hd e
      rw [valS_pos hh]
      unfold topL
      rw [if_neg (by omega), Int.natAbs_natCast]
      rw [e] at hb
      exact hb.symm
    · have ea := strip_minus e
      have nz : valS a ≠ 0 := fun z => e (h2 z).1
      have ev : valS a = -((digitsVal (strip a) : Nat) : Int) := by
        rw [ea]
        exact valS_neg _
      rw [ev]
      rw [ev] at nz
      unfold topL
      rw [if_pos (by omega), Int.natAbs_neg, Int.natAbs_natCast, hb]
      exact ea
  rcases f.fm with ⟨rfl, hl⟩ | ⟨b, rfl, hb, hl⟩
  · refine ⟨Int.le_refl _, hg, ?_⟩
    unfold textL
    rw [if_pos (show lowV [] = 1 from rfl), List.append_nil, ← top]
    exact hl
  · have hbb := can_back (hm b (List.mem_singleton.mpr rfl))
    have n1 : lowV [b] ≠ 1 := h1 (by simp)
    refine ⟨?_, hg, ?_⟩
    · have : lowV [b] = ((digitsVal b : Nat) : Int) := rfl
      omega
    · unfold textL
      rw [if_neg n1, ← top]
      have : numL (lowV [b]).natAbs = b := by
        show numL ((digitsVal b : Nat) : Int).natAbs = b
        rw [Int.natAbs_natCast]
        exact hbb
      rw [this]
      exact hl
theorem few_against {l a : List Nat} {m : List (List Nat)} {t c : Int} (f : Few l a m) (h : IsR t c l) : lowV m ≠ 0 ∧ (m ≠ [] → lowV m ≠ 1) ∧ (valS a = 0 → strip a = a ∧ m = []) := by
  have hp := h.pos
  obtain ⟨e1, e2⟩ := few_val f h
  obtain ⟨e3, ⟨e4, e5⟩ | ⟨e4, e5⟩⟩ := few_isR f h
  · refine ⟨by rw [e2]; omega, fun z => absurd e4 z, fun z => ⟨?_, e4⟩⟩
    rw [e3]
    rw [e1] at z
    rw [z]
    exact strip_of (by decide)
  · refine ⟨by rw [e2]; omega, fun _ => by rw [e2]; exact e5, fun z => ?_⟩
    rw [e1] at z
    have g := h.low
    rw [z] at g
    have : c.natAbs = 1 := by simpa using g
    omega
theorem low_same {t b : Int} (hb : 1 ≤ b) : (low t b = (t, b)) ↔ Nat.gcd t.natAbs b.natAbs = 1 := by
  constructor
  · intro h
    have e : b / (Nat.gcd t.natAbs b.natAbs : Int) = b := congrArg Prod.snd h
    have hg : 0 < Nat.gcd t.natAbs b.natAbs := Nat.gcd_pos_of_pos_right _ (by omega)
    generalize Nat.gcd t.natAbs b.natAbs = g at *
    by_cases z : g = 1
    · exact z
    · exfalso
      have h2 : (2 : Int) ≤ g := by omega
      have h3 : b / (g : Int) ≤ b / 2 := by
        refine Int.le_ediv_of_mul_le (by decide) ?_
        have h4 : 0 ≤ b / (g : Int) := Int.ediv_nonneg (by omega) (by omega)
        have h5 : b / (g : Int) * (g : Int) ≤ b := Int.ediv_mul_le _ (by omega)
        have h6 : b / (g : Int) * 2 ≤ b / (g : Int) * (g : Int) := Int.mul_le_mul_of_nonneg_left h2 h4
        omega
      omega
  · intro h
    unfold low
    rw [h]
    show (t / 1, b / 1) = (t, b)
    rw [Int.ediv_one, Int.ediv_one]
theorem inV_bl : ∀ fs : List Bool, inV (.bl false) (fs.map V.bl) = fs.any (fun z => !z)
  | [] => rfl
  | f :: fs => by
    have ih := inV_bl fs
    unfold inV at ih ⊢
    rw [List.map_cons, List.any_cons, List.any_cons, ih]
    cases f <;> rfl
end Lw

set_option maxRecDepth 100000
set_option linter.unusedVariables false
namespace Lw
open PySem PySem.Spec PyProof.Rows L2 VG
open TL (numL)
open NumText (AllDigits digitsVal)
section
variable {P : Program} {w : World} {K : PySem.W.Frag} {mg : Str → Option Value} {base : Heap}
abbrev NI : List Str := ["_law_text_z", "_law_parts", "_law_top", "_law_part", "_law_high", "_law_low_here"]
theorem scIn : FnScope NI ["_law_text_z"] (defScope s__law_ratio_in) := ⟨rfl, rfl, rfl, by decide +kernel, rfl, by decide +kernel, by decide +kernel⟩
def spIn (K : PySem.W.Frag) : Sp := fun vs H Q _ => ∃ l : List Nat, vs = [.str (Tx l)] ∧ l.length ≤ 600 ∧ (∀ c ∈ l, c < 128) ∧ (∀ t b, IsR t b l → ∀ (T : Addr) (H' : Hp), Same H H' → SqT K H' T [.int t, .int b] → Q (.ref T) H') ∧
  ((∀ t b, ¬ IsR t b l) → ∀ H', Same H H' → Q .non H')
theorem cut_first (a : List Nat) : cutS (Tx a) none (some 1) = Tx (a.take 1) := by
  rw [C8.cutS_slice, SX.slice_to (by decide)]
  rfl
theorem cut_rest (a : List Nat) : cutS (Tx a) (some 1) none = Tx (a.drop 1) := by
  rw [C8.cutS_slice, SX.slice_from (by decide)]
  rfl
theorem take_minus (a : List Nat) : decide (a.take 1 = [45]) = true ↔ a.head? = some 45 := by
  rw [decide_eq_true_eq]
  cases a with
  | nil => simp
  | cons c r => simp
theorem strip_drop {a : List Nat} (h : a.head? = some 45) : a.drop 1 = strip a := by
  obtain ⟨r, rfl⟩ := head_45 h
  rfl
theorem cutV_tail (x : V) (xs : List V) : cutV (x :: xs) (some 1) none = xs := by
  unfold cutV
  rw [show (some (1 : Int)) = some ((1 : Nat) : Int) from rfl, HT.sIx_nat, HT.sIx_none, List.length_cons, Nat.min_eq_left (by omega)]
  show xs.take _ = xs
  exact List.take_of_length_le (by omega)
theorem any_can (ms : List (List Nat)) : (ms.map canB).any (fun z => !z) = ms.any (fun z => !canB z) := by rw [List.any_map]; rfl
theorem flat_bl : ∀ fs : List Bool, (fs.map V.bl).all flatV = true
  | [] => rfl
  | _ :: r => flat_bl r
theorem val_lt {l : List Nat} (h : AllDigits l) : digitsVal l < 10 ^ l.length := by
  have key : ∀ (k : Nat) (l : List Nat), l.length = k → AllDigits l → digitsVal l < 10 ^ k := by
    intro k
    induction k with
    | zero => intro l hl _; rw [List.length_eq_zero_iff.mp hl]; decide
    | succ k ih =>
      intro l hl hd
      have hn : l ≠ [] := fun z => by rw [z] at hl; cases hl
      obtain ⟨i, c, rfl⟩ : ∃ i c, l = i ++ [c] := ⟨l.dropLast, l.getLast hn, (List.dropLast_concat_getLast hn).symm⟩
      have hl : i.length = k := by simpa using hl
      obtain ⟨hi, hc⟩ := digs_app hd
      have hc := hc c (List.mem_singleton.mpr rfl)
      rw [val_snoc]
      have := ih i hl hi
      rw [Nat.pow_succ]
      omega
  exact key _ l rfl h
theorem eqv_pair (s t : Int × Int) : PyData.eqv (.tuple [.int s.1, .int s.2]) (.tuple [.int t.1, .int t.2]) = decide (s = t) := by
  obtain ⟨a, b⟩ := s
  obtain ⟨c, d⟩ := t
  simp [PyData.eqv, PyData.eqvAll, Prod.ext_iff]
  try rfl
theorem ok_ratioIn {f fF fL : Addr} {fd fdF fdL : FuncData} (F : Fun K "_law_ratio_in" "_law_ratio_in" s__law_ratio_in f fd) (ln : mg "len" = none) (mi : mg "int" = none)
    (GF : FnOk P w K mg base CX0 1 fF fdF ["_law_text_z"] spFigL) (mF : mg "_law_figures" = some (.ref fF)) (kF : PySem.W.keepIn K (.ref fF) = true) (bF : Binds K fdF ["_law_text_z"] [])
    (GL : FnOk P w K mg base CX0 1 fL fdL ["_law_top", "_law_bottom"] spLowest) (mL : mg "_law_low" = some (.ref fL)) (kL : PySem.W.keepIn K (.ref fL) = true) (bL : Binds K fdL ["_law_top", "_law_bottom"] []) :
    FnOk P w K mg base CX0 2 f fd ["_law_text_z"] (spIn K) := by
  refine F.ok scIn (fun vs H Q E h => ?_) (fun cdv A outer s H vs Q E hr h => ?_)
  · obtain ⟨l, rfl, _⟩ := h
    rfl
  · obtain ⟨l, rfl, hl, h128, qy, qn⟩ := h
    have nd := scIn.nd
    have hu := hr.units
    refine ⟨_, pss_cons (ps_set (i := 1) nd rfl (Or.inl rfl) (pe_split (pv 0) pe_str))
      (C8.pss_cut (ps_set (i := 2) nd rfl (Or.inl rfl) (pe_ifExp (pt_cmpR op_eq (pe_slice sl_str (pe_ix ix_list (pv 1) pe_int fun _ _ => rfl) po_none (po_some pe_int)) pe_str (nomark _))
          (pe_slice sl_str (pe_ix ix_list (pv 1) pe_int fun _ _ => rfl) (po_some pe_int) po_none) (pe_ix ix_list (pv 1) pe_int fun _ _ => rfl)))
      (C8.pss_cut (ps_if (PW.pt (pw_or (pt_cmpR op_gt (pe_callB call_len_seq (by rfl) ln PySem.boot_len (pa_cons (pv 1) pa_nil)) pe_int (nomark _))
          (pw_or1 (pt_cmpR op_in_seq pe_bl (pe_lc (own := [("_law_part", 3)]) (g := gName 3) (tt := tYes) rfl nd (pi_list (pe_op op_cat (pe_lst (pa_cons (pv 2) pa_nil)) (pe_slice sl_list (pv 1) (po_some pe_int) po_none)))
              (blkOk_by (own := [("_law_part", 3)]) (N := NI) (sc := defScope s__law_ratio_in) (by decide +kernel)) (fun _ _ _ _ _ => pg_name (i := 3) nd rfl (Or.inl rfl)) (fun _ _ _ _ _ => pts_nil)
              (fun _ _ _ _ _ => pe_call GF hr (by rfl) mF kF bF .nil pass0 (pa_cons (pv 3) pa_nil))) (by rfl))))) (pss_one (ps_ret pe_non)) pss_nil)
      (C8.pss_cut (ps_par (i := 4) (j := 5) (by rfl) nd rfl rfl (by decide) rfl rfl (pa_cons (pe_ifExp (pt_cmpR op_eq (pv 2) (pe_ix ix_list (pv 1) pe_int fun _ _ => rfl) (nomark _)) (pe_callTy call_int_str (by rfl) mi (by decide +kernel) (pa_cons (pv 2) pa_nil)) (pe_op op_sub pe_int (pe_callTy call_int_str (by rfl) mi (by decide +kernel) (pa_cons (pv 2) pa_nil))))
          (pa_cons (pe_ifExp (pt_cmpR op_eq (pe_callB call_len_seq (by rfl) ln PySem.boot_len (pa_cons (pv 1) pa_nil)) pe_int (nomark _)) (pe_callTy call_int_str (by rfl) mi (by decide +kernel) (pa_cons (pe_ix ix_list (pv 1) pe_int fun _ _ => rfl) pa_nil)) pe_int) pa_nil)) (by rfl))
      (C8.pss_cut (ps_if (PW.pt (pw_or (pt_cmpR op_eq (pv 5) pe_int (nomark _)) (pw_or (PW.pt (pw_and (pt_cmpR op_eq (pe_callB call_len_seq (by rfl) ln PySem.boot_len (pa_cons (pv 1) pa_nil)) pe_int (nomark _)) (pw_and1 (pt_cmpR op_eq (pv 5) pe_int (nomark _)))))
          (pw_or1 (PW.pt (pw_and (pt_cmpR op_eq (pv 4) pe_int (nomark _)) (pw_and1 (PW.pt (pw_or (pt_cmpR op_ne (pv 2) (pe_ix ix_list (pv 1) pe_int fun _ _ => rfl) (nomark _)) (pw_or1 (pt_cmpR op_eq (pe_callB call_len_seq (by rfl) ln PySem.boot_len (pa_cons (pv 1) pa_nil)) pe_int (nomark _)))))))))))) (pss_one (ps_ret pe_non)) pss_nil)
      (pss_one (ps_ret (pe_ifExp (pt_cmpR (op_eqD hu) (pe_call GL hr (by rfl) mL kL bL .nil pass0 (pa_cons (pv 4) (pa_cons (pv 5) pa_nil))) (pe_tup (pa_cons (pv 4) (pa_cons (pv 5) pa_nil))) (nomark _)) (pe_tup (pa_cons (pv 4) (pa_cons (pv 5) pa_nil))) pe_non))))))), ?_⟩
    have l6 : ∀ {b : List Nat}, b.length ≤ 600 → (Tx b).length ≤ sizeLine := fun {b} h => fits_line (by rw [tx_len]; omega)
    refine ⟨_, rfl, ⟨_, rfl⟩, Tx l, _, rfl, rfl, rfl, (by rw [tx_len]; exact Nat.le_trans (show l.length + 2 ≤ 602 by omega) (by decide)), fun D hD => ?_⟩
    have big : (Txt.split (Tx l) "/").length ≤ 602 := by
      have := PyProof.Rows.split_le (Tx l) "/"
      rw [tx_len] at this
      omega
    have big6 : (602 : Nat) ≤ sizeLine := by decide
    -- the first part
    obtain ⟨a, r, ha, hsp⟩ : ∃ a r, a.length ≤ 600 ∧ Txt.split (Tx l) "/" = (a :: r).map Tx := by
      rcases parts_of l with ⟨a, m, f⟩ | ⟨a, b, c, r, _, _, e, h, _⟩
      · refine ⟨a, m, ?_, f.sp⟩
        rcases f.fm with ⟨_, e⟩ | ⟨b, _, _, e⟩
        · rw [← e]; exact hl
        · rw [e, List.length_append] at hl; omega
      · refine ⟨a, c :: r, ?_, h⟩
        rw [e, List.length_append] at hl; omega
    rw [hsp] at big
    rw [hsp]
    have at0 : atI (((a :: r).map Tx).map V.str) 0 = some (V.str (Tx a)) := atI_nat (j := 0) rfl
    have mD := same_upd (o := .lst (((a :: r).map Tx).map V.str)) hD
    refine ⟨fun σ G => σ = [some (.str (Tx l)), some (.ref D), some (.str (Tx (strip a))), none, none, none] ∧ G = upd H D (.lst (((a :: r).map Tx).map V.str)), ?_, ?_⟩
    · refine ⟨_, rfl, _, _, _, _, rfl, rfl, SqL.of upd_same, at0, _, rfl, _, rfl, l6 ha, rfl, _, rfl, ?_⟩
      rw [cut_first]
      have e1 : decide (V.str (Tx (a.take 1)) = V.str (Str.ofString "-")) = decide (a.take 1 = [45]) := tx_dec (b := [45])
      rw [e1]
      refine ite2 (fun h => ?_) (fun h => ?_)
      · have h := (take_minus a).mp h
        refine ⟨_, rfl, _, _, _, _, rfl, rfl, SqL.of upd_same, at0, _, rfl, _, rfl, l6 ha, ?_⟩
        rw [cut_rest, strip_drop h]
        exact ⟨rfl, rfl⟩
      · have h : a.head? ≠ some 45 := fun z => h ((take_minus a).mpr z)
        refine ⟨_, rfl, _, _, _, _, rfl, rfl, SqL.of upd_same, at0, ?_⟩
        rw [strip_of h]
        exact ⟨rfl, rfl⟩
    · rintro σ G ⟨rfl, rfl⟩
      refine ⟨fun σ G => ∃ (m : List (List Nat)) (o3 : Option V), r = m ∧ Few l a m ∧ (strip a :: m).any (fun z => !canB z) = false ∧ σ = [some (.str (Tx l)), some (.ref D), some (.str (Tx (strip a))), o3, none, none] ∧ Same H G ∧ G D = some (.lst (((a :: r).map Tx).map V.str)), ?_, ?_⟩
      · have lenP : (((a :: r).map Tx).map V.str).length = r.length + 1 := by simp
        refine ⟨_, rfl, D, _, rfl, .inl (SqL.of upd_same), _, _, rfl, rfl, _, rfl, ?_⟩
        refine ite2 (fun h => ?_) (fun h => ?_)
        · have h : (2 : Int) < ((((a :: r).map Tx).map V.str).length : Int) := of_decide_eq_true h
          rw [lenP] at h
          refine iteT ?_
          refine qn (fun t b hh => ?_) _ mD
          rcases parts_of l with ⟨a2, m, f⟩ | ⟨a2, b2, c, r2, h1, h2, e, _⟩
          · have e := hsp.symm.trans f.sp
            have e2 := congrArg List.length e
            rw [List.length_map, List.length_map, List.length_cons, List.length_cons] at e2
            rcases f.fm with ⟨z, _⟩ | ⟨b, z, _⟩
            · rw [z] at e2
              have e3 : r.length + 1 = 0 + 1 := e2
              omega
            · rw [z] at e2
              have e3 : r.length + 1 = 1 + 1 := e2
              omega
          · have z := hh.txt
            unfold textL at z
            by_cases h1' : b = 1
            · rw [if_pos h1', List.append_nil] at z
              exact top_47 t (by rw [← z, e]; exact List.mem_append_right _ List.mem_cons_self)
            · rw [if_neg h1', e] at z
              obtain ⟨_, z2⟩ := cut_one h1 (top_47 t) z
              exact num_47 b.natAbs (z2 ▸ h2)
        · have h : ¬ (2 : Int) < ((((a :: r).map Tx).map V.str).length : Int) := fun z => h (decide_eq_true z)
          rw [lenP] at h
          -- one or two parts
          obtain ⟨f⟩ : Nonempty (Few l a r) := by
            rcases parts_of l with ⟨a2, m, f⟩ | ⟨a2, b2, c, r2, h1, h2, e, h3, h4, _⟩
            · have e := hsp.symm.trans f.sp
              have e2 := List.cons.inj e
              have ea : a = a2 := tx_inj e2.1
              have em : r = m := (List.map_inj_right fun x y z => tx_inj z).mp e2.2
              subst ea em
              exact ⟨f⟩
            · exfalso
              have e := hsp.symm.trans h3
              have e2 := congrArg List.length e
              simp at e2
              omega
          have rl : r.length ≤ 1 := by omega
          have hs : ∀ b ∈ strip a :: r, b.length ≤ 600 ∧ ∀ c ∈ b, c < 128 := fun b hb => by
            rcases List.mem_cons.mp hb with rfl | hb
            · refine ⟨Nat.le_trans (strip_len a) ha, fun c hc => ?_⟩
              have hca : c ∈ a := by
                by_cases e : strip a = a
                · rw [← e]; exact hc
                · rw [strip_minus e]; exact List.mem_cons_of_mem _ hc
              refine h128 c ?_
              rcases f.fm with ⟨_, e⟩ | ⟨b, _, _, e⟩
              · rw [e]; exact hca
              · rw [e]; exact List.mem_append_left _ hca
            · rcases f.fm with ⟨z, _⟩ | ⟨b', z, _, e⟩
              · rw [z] at hb; cases hb
              · rw [z] at hb
                have := List.mem_singleton.mp hb
                subst this
                refine ⟨?_, fun c hc => h128 c (by rw [e]; exact List.mem_append_right _ (List.mem_cons_of_mem _ hc))⟩
                rw [e, List.length_append, List.length_cons] at hl
                omega
          refine ⟨_, rfl, by show 1 ≤ sizeLine; decide, fun p1 hp1 => ?_⟩
          have m1 := same_upd (o := .lst [.str (Tx (strip a))]) hp1
          refine ⟨_, rfl, _, rfl, D, _, rfl, SqL.of (m1 _ _ upd_same), fun p2 hp2 => ?_⟩
          have cutR : cutV (((a :: r).map Tx).map V.str) (some 1) none = (r.map Tx).map V.str := cutV_tail _ _
          rw [cutR]
          have m2 := same_upd (o := .lst ((r.map Tx).map V.str)) hp2
          refine ⟨p1, p2, _, _, rfl, rfl, m2 _ _ upd_same, upd_same, ?_, fun p3 hp3 => ?_⟩
          · rw [List.length_map, List.length_map]
            exact fits_line (show 1 + r.length ≤ 1000 by omega)
          have m3 := same_upd (o := .lst ([V.str (Tx (strip a))] ++ (r.map Tx).map V.str)) hp3
          have sm3 := ((mD.trans m1).trans m2).trans m3
          have hD3 := m3 _ _ (m2 _ _ (m1 _ _ (upd_same (H := H) (a := D) (o := .lst (((a :: r).map Tx).map V.str)))))
          have hP3 : (upd (upd (upd (upd H D (.lst (((a :: r).map Tx).map V.str))) p1 (.lst [.str (Tx (strip a))])) p2 (.lst ((r.map Tx).map V.str))) p3 (.lst ([V.str (Tx (strip a))] ++ (r.map Tx).map V.str))) p3 = some (.lst (((strip a :: r).map Tx).map V.str)) := upd_same
          generalize (upd (upd (upd (upd H D (.lst (((a :: r).map Tx).map V.str))) p1 (.lst [.str (Tx (strip a))])) p2 (.lst ((r.map Tx).map V.str))) p3 (.lst ([V.str (Tx (strip a))] ++ (r.map Tx).map V.str))) = Hc at *
          refine ⟨p3, rfl, ⟨_, SqL.of hP3⟩, fun D2 hD2 => ?_⟩
          refine lc_list (K := K) (a := p3) (xs := ((strip a :: r).map Tx).map V.str) (fun i G => G D2 = some (.lst ((((strip a :: r).take i).map canB).map V.bl)) ∧ ∀ b o, Hc b = some o → G b = some o) ⟨upd_same, same_upd hD2⟩ (fun i G _ ⟨_, h⟩ => SqL.of (h _ _ hP3)) ?_ ?_
          · rintro i v G hv ⟨g1, g2⟩
            obtain ⟨b, hb, rfl⟩ : ∃ b, (strip a :: r)[i]? = some b ∧ v = .str (Tx b) := by
              rw [List.getElem?_map, List.getElem?_map] at hv
              obtain ⟨z, hz, e⟩ := Option.map_eq_some_iff.mp hv
              obtain ⟨b, hb, e2⟩ := Option.map_eq_some_iff.mp hz
              exact ⟨b, hb, by rw [← e, ← e2]⟩
            have et : (strip a :: r).take (i + 1) = (strip a :: r).take i ++ [b] := by
              rw [List.take_add_one, hb]
              rfl
            obtain ⟨b6, b128⟩ := hs b (List.mem_of_getElem? hb)
            refine ⟨rfl, _, rfl, b, rfl, b6, b128, fun G2 sm => ⟨_, sm _ _ g1, ?_, ?_, fun x o e => ?_⟩⟩
            · rw [List.length_map, List.length_map, List.length_take]
              exact Nat.lt_of_le_of_lt (Nat.min_le_right _ _) (Nat.lt_of_lt_of_le (show r.length + 1 < 3 by omega) (by decide))
            · rw [upd_same, et, List.map_append, List.map_append]
              rfl
            · rw [upd_ne (ne_of_none e hD2)]
              exact sm _ _ (g2 _ _ e)
          · rintro G ⟨g1, g2⟩
            rw [show ((((strip a :: r).map Tx).map V.str).length) = (strip a :: r).length by rw [List.length_map, List.length_map], List.take_length] at g1
            refine ⟨D2, _, rfl, .inl (SqL.of g1), rfl, flat_bl _, _, rfl, ite2 (fun h => ?_) (fun h => ?_)⟩
            · have h : inV (.bl false) (((strip a :: r).map canB).map V.bl) = true := h
              rw [inV_bl, any_can] at h
              refine qn (fun t b hh => ?_) _ (sm3.trans g2)
              rw [few_can f hh] at h
              cases h
            · have h : ¬ inV (.bl false) (((strip a :: r).map canB).map V.bl) = true := h
              rw [inV_bl, any_can] at h
              exact ⟨r, _, rfl, f, by simpa using h, rfl, sm3.trans g2, g2 _ _ hD3⟩
      · rintro σ G ⟨m, o3, rfl, f, hcan, rfl, smG, hDG⟩
        have hs : canB (strip a) = true := by
          rw [List.any_cons, Bool.or_eq_false_iff] at hcan
          simpa using hcan.1
        have hm : ∀ b ∈ r, canB b = true := fun b hb => by
          rw [List.any_cons, Bool.or_eq_false_iff] at hcan
          have := List.any_eq_false.mp hcan.2 b hb
          simpa using this
        obtain ⟨s1, s2, s3⟩ := (canB_iff _).mp hs
        have lenP : ((((a :: r).map Tx).map V.str).length : Int) = r.length + 1 := by simp
        have is : PySem.intText? (Tx (strip a)) = some ((digitsVal (strip a) : Nat) : Int) := intText_digits (x := Tx (strip a)) s2 s1 (by rw [tx_len]; have := strip_len a; omega)
        have ls : (Tx (strip a)).length ≤ 640 := by rw [tx_len]; have := strip_len a; omega
        refine ⟨fun σ G' => σ = [some (.str (Tx l)), some (.ref D), some (.str (Tx (strip a))), o3, some (.int (valS a)), some (.int (lowV r))] ∧ G' = G, ?_, ?_⟩
        · have vT : strip a = a → ((digitsVal (strip a) : Nat) : Int) = valS a := fun e => by
            rw [valS_pos (strip_head s2 e), e]
          have vF : strip a ≠ a → 0 - ((digitsVal (strip a) : Nat) : Int) = valS a := fun e => by
            have z := valS_neg (strip a)
            rw [← strip_minus e] at z
            omega
          refine ⟨_, rfl, _, rfl, _, _, _, _, rfl, rfl, SqL.of hDG, at0, rfl, _, rfl, ?_⟩
          rw [tx_dec]
          rcases f.fm with ⟨hr0, hl0⟩ | ⟨b, hr0, hb47, hl0⟩
          · subst hr0
            refine ite2 (fun h => ?_) (fun h => ?_)
            · refine ⟨_, rfl, Tx (strip a), _, rfl, is, ls, _, rfl, D, _, rfl, .inl (SqL.of hDG), rfl, _, rfl, iteF ?_⟩
              refine ⟨_, _, rfl, ?_, rfl⟩
              rw [vT (of_decide_eq_true h)]
              rfl
            · refine ⟨_, rfl, Tx (strip a), _, rfl, is, ls, _, _, rfl, rfl, _, rfl, D, _, rfl, .inl (SqL.of hDG), rfl, _, rfl, iteF ?_⟩
              refine ⟨_, _, rfl, ?_, rfl⟩
              dsimp only
              rw [vF (fun z => h (decide_eq_true z))]
              rfl
          · subst hr0
            have hb := hm b (List.mem_singleton.mpr rfl)
            obtain ⟨b1, b2, b3⟩ := (canB_iff _).mp hb
            have lb : b.length ≤ 600 := by rw [hl0, List.length_append, List.length_cons] at hl; omega
            have ib : PySem.intText? (Tx b) = some ((digitsVal b : Nat) : Int) := intText_digits (x := Tx b) b2 b1 (by rw [tx_len]; omega)
            have at1 : atI (((a :: [b]).map Tx).map V.str) 1 = some (V.str (Tx b)) := atI_nat (j := 1) rfl
            refine ite2 (fun h => ?_) (fun h => ?_)
            · refine ⟨_, rfl, Tx (strip a), _, rfl, is, ls, _, rfl, D, _, rfl, .inl (SqL.of hDG), rfl, _, rfl, iteT ?_⟩
              refine ⟨_, rfl, _, _, _, _, rfl, rfl, SqL.of hDG, at1, Tx b, _, rfl, ib, (by rw [tx_len]; omega), _, _, rfl, ?_, rfl⟩
              rw [vT (of_decide_eq_true h)]
              rfl
            · refine ⟨_, rfl, Tx (strip a), _, rfl, is, ls, _, _, rfl, rfl, _, rfl, D, _, rfl, .inl (SqL.of hDG), rfl, _, rfl, iteT ?_⟩
              refine ⟨_, rfl, _, _, _, _, rfl, rfl, SqL.of hDG, at1, Tx b, _, rfl, ib, (by rw [tx_len]; omega), _, _, rfl, ?_, rfl⟩
              dsimp only
              rw [vF (fun z => h (decide_eq_true z))]
              rfl
        · rintro σ G' ⟨rfl, rfl⟩
          refine ⟨fun σ G2 => (lowV r ≠ 0 ∧ (r ≠ [] → lowV r ≠ 1) ∧ (valS a = 0 → strip a = a ∧ r = [])) ∧ σ = [some (.str (Tx l)), some (.ref D), some (.str (Tx (strip a))), o3, some (.int (valS a)), some (.int (lowV r))] ∧ G2 = G', ?_, ?_⟩
          · have none : ¬ (lowV r ≠ 0 ∧ (r ≠ [] → lowV r ≠ 1) ∧ (valS a = 0 → strip a = a ∧ r = [])) → Q .non G' := fun hn => qn (fun t b hh => hn (few_against f hh)) _ smG
            have vi : ∀ i j : Int, decide (V.int i = V.int j) = decide (i = j) := fun i j => by
              by_cases z : i = j
              · rw [z, decide_eq_true rfl, decide_eq_true rfl]
              · rw [decide_eq_false z, decide_eq_false fun y => z (V.int.inj y)]
            have len2 : decide (V.int ((((a :: r).map Tx).map V.str).length : Int) = V.int 2) = decide (r ≠ []) := by
              rw [vi, lenP]
              rcases f.fm with ⟨hr0, _⟩ | ⟨b, hr0, _, _⟩ <;> rw [hr0] <;> rfl
            refine ⟨_, rfl, rfl, _, rfl, ?_⟩
            rw [vi]
            refine ite2 (fun h => ?_) (fun h => ?_)
            · exact iteT (none fun z => z.1 (of_decide_eq_true h))
            · have h0 : lowV r ≠ 0 := fun z => h (decide_eq_true z)
              refine ⟨_, rfl, D, _, rfl, .inl (SqL.of hDG), rfl, _, rfl, ?_⟩
              rw [len2]
              rcases f.fm with ⟨hr0, _⟩ | ⟨b, hr0, _, _⟩
              · subst hr0
                refine iteF (iteF ?_)
                refine ⟨_, rfl, rfl, _, rfl, ?_⟩
                rw [vi]
                refine ite2 (fun h3 => ?_) (fun h3 => ?_)
                · have h3 : valS a = 0 := of_decide_eq_true h3
                  refine ⟨_, rfl, _, rfl, _, _, _, _, rfl, rfl, SqL.of hDG, at0, rfl, _, rfl, ?_⟩
                  rw [tx_dec]
                  by_cases e : strip a = a
                  · rw [decide_eq_true e]
                    refine iteF ⟨_, rfl, D, _, rfl, .inl (SqL.of hDG), rfl, _, rfl, ?_⟩
                    rw [len2]
                    exact iteF ⟨⟨h0, fun z => absurd rfl z, fun _ => ⟨e, rfl⟩⟩, rfl, rfl⟩
                  · rw [decide_eq_false e]
                    exact iteT (iteT (none fun z => e (z.2.2 h3).1))
                · exact iteF ⟨⟨h0, fun z => absurd rfl z, fun z => absurd z fun y => h3 (decide_eq_true y)⟩, rfl, rfl⟩
              · subst hr0
                refine iteT ⟨_, rfl, rfl, _, rfl, ?_⟩
                rw [vi]
                refine ite2 (fun h1 => ?_) (fun h1 => ?_)
                · exact iteT (none fun z => z.2.1 (by simp) (of_decide_eq_true h1))
                have h1 : lowV [b] ≠ 1 := fun z => h1 (decide_eq_true z)
                refine ⟨_, rfl, rfl, _, rfl, ?_⟩
                rw [vi]
                refine ite2 (fun h3 => ?_) (fun h3 => ?_)
                · have h3 : valS a = 0 := of_decide_eq_true h3
                  refine ⟨_, rfl, _, rfl, _, _, _, _, rfl, rfl, SqL.of hDG, at0, rfl, _, rfl, ?_⟩
                  rw [tx_dec]
                  by_cases e : strip a = a
                  · rw [decide_eq_true e]
                    refine iteF ⟨_, rfl, D, _, rfl, .inl (SqL.of hDG), rfl, _, rfl, ?_⟩
                    rw [len2]
                    exact iteT (none fun z => absurd (z.2.2 h3).2 (by simp))
                  · rw [decide_eq_false e]
                    exact iteT (iteT (none fun z => e (z.2.2 h3).1))
                · exact iteF ⟨⟨h0, fun _ => h1, fun z => absurd z fun y => h3 (decide_eq_true y)⟩, rfl, rfl⟩
          · rintro σ G2 ⟨⟨a0, a1, a2⟩, rfl, rfl⟩
            have lp : 1 ≤ lowV r := by
              have : 0 ≤ lowV r := by
                unfold lowV
                split <;> omega
              omega
            have lb : (lowV r).natAbs < 2 ^ 8000 := by
              rcases f.fm with ⟨hr0, _⟩ | ⟨b, hr0, _, e⟩
              · rw [hr0]
                show 1 < 2 ^ 8000
                decide +kernel
              · have hb := hm b (by rw [hr0]; exact List.mem_singleton.mpr rfl)
                obtain ⟨_, b2, _⟩ := (canB_iff _).mp hb
                rw [e, List.length_append, List.length_cons] at hl
                have z := val_lt b2
                rw [hr0]
                show (((digitsVal b : Nat) : Int)).natAbs < 2 ^ 8000
                rw [Int.natAbs_natCast]
                refine Nat.lt_of_lt_of_le z (Nat.le_trans (Nat.pow_le_pow_right (by decide) (show b.length ≤ 600 by omega)) ?_)
                decide +kernel
            refine ⟨_, rfl, _, rfl, valS a, lowV r, rfl, by omega, lb, fun T hT => ?_⟩
            have mT := same_upd (o := .tup [.int (low (valS a) (lowV r)).1, .int (low (valS a) (lowV r)).2]) hT
            refine ⟨_, rfl, _, rfl, by show 2 ≤ sizeLine; decide, fun T2 hT2 => ?_⟩
            have mT2 := same_upd (o := .tup [.int (valS a), .int (lowV r)]) hT2
            refine ⟨.tuple [.int (low (valS a) (lowV r)).1, .int (low (valS a) (lowV r)).2], .tuple [.int (valS a), .int (lowV r)], .tup (SqT.of (mT2 _ _ upd_same)) (.cons (.int _) (.cons (.int _) .nil)), .tup (SqT.of upd_same) (.cons (.int _) (.cons (.int _) .nil)), by rfl, by rfl, _, rfl, ?_⟩
            rw [show PyData.eqv (.tuple [.int (low (valS a) (lowV r)).1, .int (low (valS a) (lowV r)).2]) (.tuple [.int (valS a), .int (lowV r)]) = decide (low (valS a) (lowV r) = (valS a, lowV r)) from eqv_pair _ (valS a, lowV r)]
            refine ite2 (fun h => ?_) (fun h => ?_)
            · have hg := (low_same lp).mp (of_decide_eq_true h)
              refine ⟨_, rfl, _, rfl, by show 2 ≤ sizeLine; decide, fun T3 hT3 => ?_⟩
              exact qy _ _ (few_back f hcan a0 a1 a2 hg) T3 _ (((smG.trans mT).trans mT2).trans (same_upd hT3)) (SqT.of upd_same)
            · refine qn (fun t b hh => h (decide_eq_true ?_)) _ ((smG.trans mT).trans mT2)
              obtain ⟨e1, e2⟩ := few_val f hh
              exact (low_same lp).mpr (by rw [e1, e2]; exact hh.low)
end
end Lw

set_option maxRecDepth 100000
namespace Lw
open PySem PySem.Spec PyProof.Rows L2 VG LamX
abbrev NL : List Str := ["_law_script", "_law_src", "_law_turn", "_law_pair_here", "_law_text_z", "_law_at", "_law_sign", "_law_bent", "_law_due", "_law_odd", "_law_bad", "_law_got", "_law_most", "_law_over"]
theorem scLaw : FnScope NL ["_law_script"] (defScope sLaw) := ⟨rfl, rfl, rfl, by decide +kernel, rfl, by decide +kernel, by decide +kernel⟩
theorem scAsk : FnScope ["_law_f", "_law_e"] ["_law_f"] (defScope s__law_ask) := ⟨rfl, rfl, rfl, by decide +kernel, rfl, by decide +kernel, by decide +kernel⟩
abbrev lamQ : Str := "law.<locals>.<lambda>"
/-- what asking needs: the def, the errors that it catches, the fields -/
structure AskT (P : Program) (w : World) (K : PySem.W.Frag) (mg : Str → Option Value) (base : Heap) (c tb : Addr) (cs : List Value) : Prop where
  ask : ∃ (g : Addr) (fd : FuncData), Fun K "_law_ask" "_law_ask" s__law_ask g fd ∧ mg "_law_ask" = some (.ref g) ∧ L2.Binds K fd ["_law_f"] []
  fields : ∃ (f : Addr) (fd : FuncData), FnE P w K mg base CX0 1 f fd ["_law_e"] (spFields K) ∧ mg "_law_fields" = some (.ref f) ∧ PySem.W.keepIn K (.ref f) = true ∧ L2.Binds K fd ["_law_e"] []
  errs : ∃ c1 c2 c3, cs = [c1, c2, c3] ∧ mg "MilesError" = some c1 ∧ mg "Missing" = some c2 ∧ mg "NothingLeft" = some c3
  tab : TabB base mg c tb
section
variable {X : Cx} {c tb : Addr} {cs : List Value} {k : Nat} {params : Arguments} {body : Expr} {scope : Scope} {t : XK → TE} {p lpos pos p0 : Pos} {a : Str} {z : Int} {j : Nat}
theorem gives {g : Addr} {cdg : Value} (T : AskT X.prog X.w X.K X.mg X.base c tb cs) (hr : Room (k + 2) X.A) : GivesTo X ["_law_f", "_law_e"] "_law_ask" (defScope s__law_ask) g cdg (defBody s__law_ask) "_law_f" lamQ (TAsk X.K cs) := by
  obtain ⟨f, fdF, F1, F2, F3, F4⟩ := T.fields
  obtain ⟨c1, c2, c3, rfl, e1, e2, e3⟩ := T.errs
  exact ask_gives (sg := defScope s__law_ask) (e := "_law_e") (y := "_law_fields") (xA := "MilesError") (xB := "Missing") (xC := "NothingLeft") F1 (hr.mono (by omega)) scAsk.nd rfl (by rfl) (by rfl) (by rfl) (by rfl) (by rfl) e1 e2 e3 F2 F3 F4 (by decide) (by decide) (by decide) (by decide) (by decide) (by decide) (fun _ => rfl) (by decide)
theorem pe_ask (T : AskT X.prog X.w X.K X.mg X.base c tb cs) (hcode : X.env.code = .ref c) (hq : X.env.qual ++ "<lambda>" = lamQ) (hg : Gl X "_law_ask") (hr : Room (k + 2) X.A) (L : LamS X.env.scope scope) (hdef : defaultsOf params X.env = ([], []))
    (hbind : ∀ (q : Str) (cl : List (Str × Addr)) (pm cv ctv : Value), bindArgs (PySem.W.kla_fn "<lambda>" q params body scope cl pm cv ctv) ⟨[], []⟩ = pure [])
    (hbody : ∀ (A : Around) (outer : List Env) (s : Shared) (H : Hp) (E : XK) (f c' : Addr), Room k (A.deeper (lamEnv X scope s.heap.objs.size f c')) → PE (lamCx X A outer s H E scope f c') body (t E)) :
    PE X (.Call (.Name "_law_ask" p) [.Lambda params body scope lpos] [] pos) (tLam [(tb, lamQ)] (TAsk X.K cs) t) := by
  obtain ⟨g, fd, F, m, b⟩ := T.ask
  obtain ⟨oc, od, kV, doc, pm, an, cdv, ct, osl, rfl, lk, hcd⟩ := F.ex
  exact pe_lamcall hg m F.kp lk hcd b scAsk rfl (.inl rfl) (by rw [hq]; exact gives T hr) T.tab hcode (by rw [hq]; exact List.mem_singleton.mpr rfl) (fun p hp e => by rw [hq]; rw [List.mem_singleton.mp hp]) hr L hdef hbind hbody
theorem pe_ask0 (T : AskT X.prog X.w X.K X.mg X.base c tb cs) (hcode : X.env.code = .ref c) (hq : X.env.qual ++ "<lambda>" = lamQ) (hg : Gl X "_law_ask") (hr : Room (k + 2) X.A) (L : LamD X.env.scope scope a X.N) (hdef : defaultsOf params X.env = ([eval (.Constant (.int z) j p0) X.env], [])) (hkw : params.kwonlyargs = [])
    (binds : ∀ (q : Str) (cl : List (Str × Addr)) (pm cv ctv u : Value) (D : Addr) (s2 : Shared), s2.heap.get? D = some (oneTup u) → BindsTo s2 (dlFn q params body scope cl pm cv ctv (.ref D)) ⟨[], []⟩ [(a, u)])
    (hbody : ∀ (A : Around) (outer : List Env) (s : Shared) (H : Hp) (E : XK) (f c' : Addr), Room k (A.deeper (lamEnv X scope s.heap.objs.size f c')) → PE (lamCx X A outer s H E scope f c') body (t E)) :
    PE X (.Call (.Name "_law_ask" p) [.Lambda params body scope lpos] [] pos) (tLam [(tb, lamQ)] (TAsk X.K cs) t) := by
  obtain ⟨g, fd, F, m, b⟩ := T.ask
  obtain ⟨oc, od, kV, doc, pm, an, cdv, ct, osl, rfl, lk, hcd⟩ := F.ex
  exact pe_dlcall hg m F.kp lk hcd b scAsk rfl (.inl rfl) (by rw [hq]; exact gives T hr) T.tab hcode (by rw [hq]; exact List.mem_singleton.mpr rfl) (fun p hp e => by rw [hq]; rw [List.mem_singleton.mp hp]) hr L hdef hkw binds hbody
end
/-- a def that keeps a promise, by its name -/
structure Def (P : Program) (w : World) (K : PySem.W.Frag) (mg : Str → Option Value) (base : Heap) (CX : CXT) (k : Nat) (x : Str) (ps : List Str) (sp : Sp) (f : Addr) (fd : FuncData) : Prop where
  ok : FnOk P w K mg base CX k f fd ps sp
  at_ : mg x = some (.ref f)
  kp : PySem.W.keepIn K (.ref f) = true
  bd : L2.Binds K fd ps []
structure LawT (P : Program) (w : World) (K : PySem.W.Frag) (mg : Str → Option Value) (base : Heap) (C c tb : Addr) (cs : List Value) : Prop where
  src : ∃ f fd, Def P w K mg base CX0 1 "_law_source" ["_law_script"] (spSource K) f fd
  draw : ∃ f fd, Def P w K mg base CX0 1 "_law_draw" ["_law_src", "_law_many"] spDraw f fd
  of_ : ∃ f fd, Def P w K mg base CX0 2 "_law_of" ["_law_src", "_law_some"] (spOf K) f fd
  same : ∃ f fd, FnG P w K mg base CX0 1 f fd ["_law_found", "_law_due"] (spSame K) ∧ mg "_law_same" = some (.ref f) ∧ PySem.W.keepIn K (.ref f) = true ∧ L2.Binds K fd ["_law_found", "_law_due"] []
  wide : ∃ f fd, Def P w K mg base CX0 2 "_law_wide" ["_law_src"] (spWide K) f fd
  ltext : ∃ f fd, Def P w K mg base CX0 2 "_law_text" ["_law_value_z"] (spTextL K) f fd
  rin : ∃ f fd, Def P w K mg base CX0 2 "_law_ratio_in" ["_law_text_z"] (spIn K) f fd
  text : ∃ f fd, Def P w K mg base (L2.CX P w) 7 "ratio_text" ["value"] (spText K C 2) f fd ∧ KBn K fd ["value"] 0 ["value"] (fun us ws => ws) (fun us ws => ws)
  read : ∃ f fd, Def P w K mg base (L2.CX P w) 8 "read_ratio" ["text"] (spRead K C 2) f fd ∧ KBn K fd ["text"] 0 ["text"] (fun us ws => ws) (fun us ws => ws)
  ask : AskT P w K mg base c tb cs
  own : OwnX K C
  exm : PySem.W.exmAny K (.ref C) cs = some true
  rng : mg "range" = none
  len : mg "len" = none
  int : mg "int" = none
abbrev XL (P : Program) (w : World) (K : PySem.W.Frag) (mg : Str → Option Value) (base : Heap) (f c : Addr) (A : Around) (outer : List Env) (s : Shared) (H : Hp) (E : XK) : Cx := (cxOf CX0 P w K mg base NL "law" (defScope sLaw) f (.ref c) A outer s H E).nox
def spLaw (K : PySem.W.Frag) (tb : Addr) : Sp := fun vs H Q _ => ∃ (a : Addr) (ns : List Int), vs = [.ref a] ∧ SqL K H a (ns.map V.int) ∧ ns.length ≤ 63 ∧ H tb = some (.tbl #[]) ∧ ∀ H', Q (.bl true) H'
end Lw

set_option maxRecDepth 100000
set_option linter.unusedVariables false
namespace Lw
open PySem PySem.Spec PyProof.Rows L2 VG LamX
open TL (numL)
open NumText (AllDigits digitsVal)
/-! ### texts that are none -/
/-- may these signs be the text of a ratio -/
def isRB (l : List Nat) : Bool :=
  let p := match TL.par [47] [] l with | some (a, b) => (a, [b]) | none => (l, [])
  !((strip p.1 :: p.2).any fun z => !canB z) && (decide (lowV p.2 ≠ 0) && (decide (p.2 ≠ [] → lowV p.2 ≠ 1) && (decide (valS p.1 = 0 → strip p.1 = p.1 ∧ p.2 = []) && decide (Nat.gcd (valS p.1).natAbs (lowV p.2).natAbs = 1))))
theorem isR_rb {t c : Int} {l : List Nat} (h : IsR t c l) : isRB l = true := by
  have e : TL.par [47] [] l = (if c = 1 then none else some (topL t, numL c.natAbs)) := by
    have z := h.txt
    unfold textL at z
    by_cases h1 : c = 1
    · rw [if_pos h1, List.append_nil] at z
      rw [if_pos h1, z]
      exact TL.par_none1 (top_47 t)
    · rw [if_neg h1] at z
      rw [if_neg h1, z]
      exact TL.par_part1 (S := []) (top_47 t)
  have f : Few l (topL t) (if c = 1 then [] else [numL c.natAbs]) := by
    have z := h.txt
    unfold textL at z
    by_cases h1 : c = 1
    · rw [if_pos h1, List.append_nil] at z
      rw [if_pos h1]
      refine ⟨top_47 t, .inl ⟨rfl, z⟩, ?_⟩
      rw [split_tx, z, spl_no (top_47 t)]
    · rw [if_neg h1] at z
      rw [if_neg h1]
      refine ⟨top_47 t, .inr ⟨_, rfl, num_47 _, z⟩, ?_⟩
      rw [split_tx, z, spl_yes (top_47 t), spl_no (num_47 _)]
  obtain ⟨a0, a1, a2⟩ := few_against f h
  have a3 := few_can f h
  obtain ⟨v1, v2⟩ := few_val f h
  have hg := h.low
  have key : isRB l = (!((strip (topL t) :: (if c = 1 then [] else [numL c.natAbs])).any fun z => !canB z) && (decide (lowV (if c = 1 then [] else [numL c.natAbs]) ≠ 0) && (decide ((if c = 1 then [] else [numL c.natAbs]) ≠ [] → lowV (if c = 1 then [] else [numL c.natAbs]) ≠ 1) &&
      (decide (valS (topL t) = 0 → strip (topL t) = topL t ∧ (if c = 1 then [] else [numL c.natAbs]) = []) && decide (Nat.gcd (valS (topL t)).natAbs (lowV (if c = 1 then [] else [numL c.natAbs])).natAbs = 1))))) := by
    unfold isRB
    rw [e]
    by_cases h1 : c = 1
    · rw [if_pos h1, if_pos h1]
      have z := h.txt
      unfold textL at z
      rw [if_pos h1, List.append_nil] at z
      rw [z]
    · rw [if_neg h1, if_neg h1]
  rw [key, a3, decide_eq_true a0, decide_eq_true a1, decide_eq_true a2, decide_eq_true (by rw [v1, v2]; exact hg)]
  rfl
theorem no_reads {x : Str} (h : isRB x.cps.toList = false) (t b : Int) : ¬ Reads (.str x) t b := fun hh => by
  rw [isR_rb hh.str] at h
  cases h
theorem no_reads2 {d : PyData} (h : ∀ x, d ≠ .str x) (t b : Int) : ¬ Reads d t b := fun hh => by
  obtain ⟨x, e, _⟩ := hh.ex
  exact h x e
section
variable {P : Program} {w : World} {K : PySem.W.Frag} {mg : Str → Option Value} {base : Heap} {C c tb : Addr} {cs : List Value}
theorem err_asked {Q : VK} {dd : Addr} {H' : Hp} {z : PyData} (own : OwnX K C) (exm : PySem.W.exmAny K (.ref C) cs = some true) (er : ErrD K H' dd [("code", .str "InvalidRatio"), ("given", z)])
    (q : ∀ (T : Addr) (G : Hp), Same H' G → Dp K G (.ref T) (.tuple [.str "InvalidRatio", z]) → Q (.ref T) G) : askX K cs Q (.ref C) (some dd) H' := by
  obtain ⟨fs, e1, e2⟩ := er
  obtain ⟨v1, l1, d1⟩ := e2.get (f := "code") (d := .str "InvalidRatio") rfl
  obtain ⟨v2, l2, d2⟩ := e2.get (f := "given") (d := z) rfl
  cases d1
  refine ⟨exm, "InvalidRatio", fs, [v2], ⟨⟨C, dd, rfl, own, rfl, e1⟩, l1, by decide +kernel⟩, ?_, by show 1 ≤ 1000; decide, fun T G sm ht => q T G sm (.tup ht (.cons (.str _) (.cons (Dp.same sm z v2 d2) .nil)))⟩
  have e : VG.fieldsOf "InvalidRatio" = [("given" : Str)] := by decide +kernel
  rw [e]
  show [fs.lookup ("given" : Str)] = [some v2]
  rw [l2]
theorem ask_read {Q : VK} {H1 : Hp} {x : V} {d : PyData} (own : OwnX K C) (exm : PySem.W.exmAny K (.ref C) cs = some true) (hx : Dp K H1 x d) (fx : fit 2 d = true) (hl : ∀ z, d = .str z → z.length ≤ 1000)
    (q1 : ∀ t b, Reads d t b → ∀ (T : Addr) (G : Hp), Same H1 G → Dp K G (.ref T) (.tuple [.str "", .tuple [.int t, .int b]]) → Q (.ref T) G)
    (q2 : (∀ t b, ¬ Reads d t b) → ∀ (T : Addr) (G : Hp), Same H1 G → Dp K G (.ref T) (.tuple [.str "InvalidRatio", d]) → Q (.ref T) G) : spRead K C 2 [x] H1 (askQ Q) (askX K cs Q) := by
  refine ⟨x, d, rfl, hx, fx, hl, fun t b hr T G sm hT => ⟨by show 2 ≤ sizeLine; decide, fun T2 h2 => q1 t b hr T2 _ (sm.trans (same_upd h2)) ?_⟩, fun no dd G sm er => err_asked own exm er fun T G2 s2 hd => q2 no T G2 (sm.trans s2) hd⟩
  exact .tup (SqT.of upd_same) (.cons (.str _) (.cons (.tup (Same.tup (same_upd h2) hT) (.cons (.int _) (.cons (.int _) .nil))) .nil))
theorem ask_text {Q : VK} {H1 : Hp} {x : V} {d : PyData} (own : OwnX K C) (exm : PySem.W.exmAny K (.ref C) cs = some true) (hx : Dp K H1 x d) (fx : fit 2 d = true) (no : okR d = false)
    (q2 : ∀ (T : Addr) (G : Hp), Same H1 G → Dp K G (.ref T) (.tuple [.str "InvalidRatio", d]) → Q (.ref T) G) : spText K C 2 [x] H1 (askQ Q) (askX K cs Q) := by
  refine ⟨x, d, rfl, hx, fx, fun ok => ?_, fun _ dd G sm er => err_asked own exm er fun T G2 s2 hd => q2 T G2 (sm.trans s2) hd⟩
  rw [ok] at no
  cases no
/-- the source and the table, as they stand between the statements -/
structure Gd (tb p q : Addr) (G : Hp) : Prop where
  src : ∃ cells, Src G p q cells
  tabs : Tabs [(tb, lamQ)] G
theorem Gd.same {tb p q : Addr} {G G' : Hp} (g : Gd tb p q G) (s : Same G G') : Gd tb p q G' := ⟨g.src.imp fun _ h => h.on s, g.tabs.ext s⟩
theorem Gd.grown {tb p q : Addr} {G G' : Hp} (g : Gd tb p q G) (s : ExtN G G') (t : Tabs [(tb, lamQ)] G') : Gd tb p q G' := by
  obtain ⟨cells, ⟨i, cc, sd, n, h1, h2, h3⟩, h4, h5, h6⟩ := g.src
  exact ⟨⟨cells, ⟨i, cc, sd, n, s _ _ h1 (fun _ z => by cases z), h2, h3⟩, s _ _ h4 (fun _ z => by cases z), h5, h6⟩, t⟩
theorem codeO_lst {c : Addr} {q : Str} (xs : List V) : CodeO c q ≠ .lst xs := fun z => by
  unfold CodeO at z
  cases z
theorem Gd.ex {tb p q : Addr} {G G' : Hp} {cells : List Int} (g : Gd tb p q G) (s : Ex p G G') (h : Src G' p q cells) : Gd tb p q G' := by
  obtain ⟨cells0, ⟨i, cc, sd, n, h1, _⟩, _⟩ := g.src
  refine ⟨⟨cells, h⟩, fun r hr => ?_⟩
  obtain ⟨ps, a1, a2, a3⟩ := g.tabs r hr
  refine ⟨ps, s _ _ (fun z => by rw [z, h1] at a1; cases a1) a1, a2, fun pos cv hc => ?_⟩
  obtain ⟨c0, b1, b2⟩ := a3 pos cv hc
  exact ⟨c0, b1, s _ _ (fun z => by rw [z, h1] at b2; exact codeO_lst _ (Option.some.inj b2).symm) b2⟩
end
end Lw

set_option maxRecDepth 100000
set_option linter.unusedVariables false
namespace Lw
open PySem PySem.Spec PyProof.Rows L2 VG LamX
open TL (numL)
open NumText (AllDigits digitsVal)
theorem num_128 (n : Nat) : ∀ c ∈ numL n, c < 128 := fun c hc => by have := TL.numL_digits n c hc; omega
theorem top_128 (t : Int) : ∀ c ∈ topL t, c < 128 := fun c hc => by
  unfold topL at hc
  rcases List.mem_append.mp hc with h | h
  · split at h
    · rw [List.mem_singleton.mp h]; decide
    · cases h
  · exact num_128 _ c h
theorem text_128 (t b : Int) : ∀ c ∈ textL t b, c < 128 := fun c hc => by
  unfold textL at hc
  rcases List.mem_append.mp hc with h | h
  · exact top_128 t c h
  · split at h
    · cases h
    · rcases List.mem_cons.mp h with rfl | h
      · decide
      · exact num_128 _ c h
theorem strOk_tx {l : List Nat} (h : ∀ c ∈ l, c < 128) : PyData.strOk (Tx l) = true := by
  simp only [PyData.strOk]
  rw [← Array.all_toList, List.all_eq_true]
  exact fun c hc => decide_eq_true (Nat.lt_trans (h c hc) (by decide))
theorem size_tx (l : List Nat) : (Tx l).cps.size = l.length := by simp
def twoD (l : List Nat) (t b : Int) : PyData := .list [.str (Tx l), .tuple [.int t, .int b]]
theorem two_sm {l : List Nat} {t b : Int} (h : ∀ c ∈ l, c < 128) (hl : l.length ≤ 600) (ht : t.natAbs < 10 ^ 60) (hb : b.natAbs < 10 ^ 60) : Sm (twoD l t b) := by
  have e : (10 : Nat) ^ 60 < 10 ^ 90 := by decide +kernel
  refine ⟨?_, by simp [twoD, PyData.depth, PyData.depthAll], ?_⟩
  · simp only [twoD, VG.sm, VG.smAll, strOk_tx h, Bool.and_true, Bool.true_and, Bool.and_eq_true, decide_eq_true_eq]
    omega
  · simp only [twoD, PyData.bulk, PyData.bulkAll]
    have z : l.toArray.size = l.length := by simp
    omega
def gotD (t b : Int) : PyData := .tuple [.str "", .tuple [.int t, .int b]]
def badD (d : PyData) : PyData := .tuple [.str "InvalidRatio", d]
theorem bulk_len (l : List Nat) : l.toArray.size = l.length := by simp
theorem got_sm {t b : Int} (ht : t.natAbs < 10 ^ 60) (hb : b.natAbs < 10 ^ 60) : Sm (gotD t b) := by
  have e : (10 : Nat) ^ 60 < 10 ^ 90 := by decide +kernel
  refine ⟨?_, by simp [gotD, PyData.depth, PyData.depthAll], ?_⟩
  · simp only [gotD, VG.sm, VG.smAll, Bool.and_true, Bool.and_eq_true, decide_eq_true_eq]
    have e0 : PyData.strOk ("" : Str) = true := by decide +kernel
    exact ⟨e0, by omega, by omega⟩
  · simp only [gotD, PyData.bulk, PyData.bulkAll]
    have : ("" : Str).cps.size = 0 := rfl
    omega
theorem bad_sm {l : List Nat} (h : ∀ c ∈ l, c < 128) (hl : l.length ≤ 600) : Sm (badD (.str (Tx l))) := by
  refine ⟨?_, by simp [badD, PyData.depth, PyData.depthAll], ?_⟩
  · have e0 : PyData.strOk ("InvalidRatio" : Str) = true := by decide +kernel
    simp only [badD, VG.sm, VG.smAll, e0, strOk_tx h, Bool.and_true]
  · simp only [badD, PyData.bulk, PyData.bulkAll]
    have z : l.toArray.size = l.length := by simp
    have : ("InvalidRatio" : Str).cps.size = 12 := by decide +kernel
    omega
/-- the signs that are put in -/
def signs : List Str := ["0", "-", "/", "7", " ", "+", "/1", "a"]
theorem signs_ok : ∀ z ∈ signs, z.length ≤ 2 ∧ ∀ c ∈ z.cps.toList, c < 128 := by decide +kernel
theorem num_lt (n : Nat) : n < 10 ^ (numL n).length := by
  have z := val_lt (TL.numL_digits n)
  rw [TL.numL_val] at z
  exact z
theorem isR_small {t b : Int} {l : List Nat} (h : IsR t b l) (hl : l.length ≤ 60) : t.natAbs < 10 ^ 60 ∧ b.natAbs < 10 ^ 60 := by
  have e := congrArg List.length h.txt
  unfold textL topL at e
  rw [List.length_append, List.length_append] at e
  have p := h.pos
  refine ⟨Nat.lt_of_lt_of_le (num_lt _) (Nat.pow_le_pow_right (by decide) (by omega)), ?_⟩
  by_cases h1 : b = 1
  · rw [h1]
    decide +kernel
  · rw [if_neg h1, List.length_cons] at e
    exact Nat.lt_of_lt_of_le (num_lt _) (Nat.pow_le_pow_right (by decide) (by omega))
theorem text_40 {t b : Int} (h : t.natAbs < 10 ^ 18 + 1) (g : b.natAbs < 10 ^ 18 + 1) : (textL t b).length ≤ 40 := by
  have e : (10 : Nat) ^ 18 + 1 < 10 ^ 19 := by decide +kernel
  have l1 : (numL t.natAbs).length ≤ 19 := TL.numL_len (by decide) (by omega)
  have l2 : (numL b.natAbs).length ≤ 19 := TL.numL_len (by decide) (by omega)
  unfold textL topL
  rw [List.length_append, List.length_append]
  have a1 : ((if t < 0 then [45] else []) : List Nat).length ≤ 1 := by split <;> simp
  have a2 : ((if b = 1 then [] else 47 :: numL b.natAbs) : List Nat).length ≤ 20 := by split <;> simp <;> omega
  omega
/-- a value that is no text of a ratio, small enough to be shown -/
structure Odd (d : PyData) : Prop where
  fit : fit 2 d = true
  len : ∀ z, d = .str z → z.length ≤ 1000
  no : ∀ t b, ¬ Reads d t b
  sm : VG.sm d = true ∧ d.depth ≤ 5 ∧ d.bulk ≤ 100
theorem odd_str {x : Str} (h : isRB x.cps.toList = false ∧ x.length ≤ 50 ∧ PyData.strOk x = true) : Odd (.str x) := by
  refine ⟨rfl, fun z hz => by cases hz; omega, no_reads h.1, ?_, ?_, ?_⟩
  · simp only [VG.sm]; exact h.2.2
  · simp [PyData.depth]
  · simp only [PyData.bulk]
    have : x.cps.size = x.length := rfl
    omega
theorem odd_other {d : PyData} (h : (∀ x, d ≠ .str x)) (h1 : fit 2 d = true) (h2 : VG.sm d = true ∧ d.depth ≤ 5 ∧ d.bulk ≤ 100) : Odd d := ⟨h1, fun z hz => absurd hz (h z), no_reads2 h, h2⟩
def oddS : List Str := ["", "-", "/", "-0", "2/4", "1/0", "01", "0/1", "1/-2", "--1", "1/"]
theorem oddS_ok : ∀ x ∈ oddS, Odd (.str x) := fun x hx => odd_str (by
  have : ∀ x ∈ oddS, isRB x.cps.toList = false ∧ x.length ≤ 50 ∧ PyData.strOk x = true := by decide +kernel
  exact this x hx)
structure Bad (d : PyData) : Prop where
  fit : fit 2 d = true
  no : okR d = false
  sm : VG.sm d = true ∧ d.depth ≤ 5 ∧ d.bulk ≤ 100
def oddD (d e : PyData) : PyData := .list [badD d, badD e, .str "-7"]
theorem odd_sm {d e : PyData} (h : VG.sm d = true ∧ d.depth ≤ 5 ∧ d.bulk ≤ 100) (g : VG.sm e = true ∧ e.depth ≤ 5 ∧ e.bulk ≤ 100) : Sm (oddD d e) := by
  have e0 : PyData.strOk ("InvalidRatio" : Str) = true := by decide +kernel
  have e1 : PyData.strOk ("-7" : Str) = true := by decide +kernel
  have s0 : ("InvalidRatio" : Str).cps.size = 12 := by decide +kernel
  have s1 : ("-7" : Str).cps.size = 2 := by decide +kernel
  refine ⟨?_, ?_, ?_⟩
  · simp only [oddD, badD, VG.sm, VG.smAll, e0, e1, h.1, g.1, Bool.and_true]
  · simp only [oddD, badD, PyData.depth, PyData.depthAll]
    have := h.2.1
    have := g.2.1
    omega
  · simp only [oddD, badD, PyData.bulk, PyData.bulkAll]
    have := h.2.2
    have := g.2.2
    omega
theorem neg7 : textL (-7) 1 = ("-7" : Str).cps.toList := by decide +kernel
def m60 : List Nat := List.replicate 60 55
def m61 : List Nat := List.replicate 61 55
def n60 : Nat := digitsVal m60
theorem can60 : canB m60 = true := by decide +kernel
theorem num60 : numL n60 = m60 := can_back can60
theorem n60_lt : (n60 : Int).natAbs < 10 ^ 60 := by
  rw [Int.natAbs_natCast]
  exact val_lt (l := m60) ((canB_iff _).mp can60).2.1
theorem n60_ne : ((n60 : Nat) : Int) ≠ 1 := by decide +kernel
def l60 : List Nat := [45, 49, 47] ++ m60
def l61 : List Nat := [49, 47] ++ m61
theorem is60 : IsR n60 1 m60 := by
  refine ⟨Int.le_refl _, by rw [show (1 : Int).natAbs = 1 from rfl]; exact Nat.gcd_one_right _, ?_⟩
  unfold textL topL
  rw [if_pos rfl, if_neg (by omega), List.append_nil, Int.natAbs_natCast, num60]
  rfl
theorem is60m : IsR (-1) n60 l60 := by
  refine ⟨by decide +kernel, by rw [show (-1 : Int).natAbs = 1 from rfl]; exact Nat.gcd_one_left _, ?_⟩
  unfold textL topL
  rw [if_neg n60_ne, if_pos (by decide), Int.natAbs_natCast, num60, show (-1 : Int).natAbs = 1 from rfl, num_one]
  rfl
theorem rd60 : Reads (.str (Tx m60)) n60 1 := ⟨⟨_, rfl, is60⟩, n60_lt, by decide +kernel⟩
theorem rd60m : Reads (.str (Tx l60)) (-1) n60 := ⟨⟨_, rfl, is60m⟩, by decide +kernel, n60_lt⟩
theorem no61 (t b : Int) : ¬ Reads (.str (Tx m61)) t b := fun hh => by
  have h := hh.str.txt
  have h : m61 = textL t b := h
  unfold textL at h
  by_cases h1 : b = 1
  · rw [if_pos h1, List.append_nil] at h
    unfold topL at h
    by_cases h2 : t < 0
    · rw [if_pos h2] at h
      have h3 : some 55 = some 45 := congrArg List.head? h
      exact absurd (Option.some.inj h3) (by decide)
    · rw [if_neg h2] at h
      have l1 := num_60 hh.top
      have l2 := congrArg List.length h
      have l3 : m61.length = 61 := by decide
      rw [l3] at l2
      have l2 : 61 = (numL t.natAbs).length := l2
      omega
  · rw [if_neg h1] at h
    have : (47 : Nat) ∈ m61 := by rw [h]; exact List.mem_append_right _ List.mem_cons_self
    exact absurd this (by decide)
theorem no61m (t b : Int) : ¬ Reads (.str (Tx l61)) t b := fun hh => by
  have h := hh.str.txt
  have h : l61 = textL t b := h
  unfold textL at h
  have e : l61 = [49] ++ 47 :: m61 := rfl
  by_cases h1 : b = 1
  · rw [if_pos h1, List.append_nil, e] at h
    exact top_47 t (by rw [← h]; exact List.mem_append_right _ List.mem_cons_self)
  · rw [if_neg h1, e] at h
    obtain ⟨_, e2⟩ := cut_one (by decide) (top_47 t) h
    have l1 := num_60 hh.bot
    rw [← e2] at l1
    exact absurd l1 (by decide)
def lastD : PyData := .list [gotD n60 1, gotD (-1) n60, badD (.str (Tx m61)), badD (.str (Tx l61))]
theorem last_sm : Sm lastD := ⟨by decide +kernel, by decide +kernel, by decide +kernel⟩
theorem int60 : PySem.intText? (Tx m60) = some (n60 : Int) := intText_digits (x := Tx m60) ((canB_iff _).mp can60).2.1 ((canB_iff _).mp can60).1 (by decide)
theorem e60 : (⟨((List.replicate 60 ("7" : Str).cps.toList).flatten).toArray⟩ : Str) = Tx m60 := by decide +kernel
theorem e61 : (⟨((List.replicate 61 ("7" : Str).cps.toList).flatten).toArray⟩ : Str) = Tx m61 := by decide +kernel
theorem e60m : (Str.ofString "-1/") ++ Tx m60 = Tx l60 := tx_app [45, 49, 47] m60
theorem e61m : (Str.ofString "1/") ++ Tx m61 = Tx l61 := tx_app [49, 47] m61
section
variable {P : Program} {w : World} {K : PySem.W.Frag} {mg : Str → Option Value} {base : Heap}
set_option maxHeartbeats 4000000 in
theorem ok_law {f C c tb : Addr} {fd : FuncData} {cs : List Value} (F : Fun K "law" "law" sLaw f fd) (hc : fd.code = .ref c) (T : LawT P w K mg base C c tb cs) (ms : mg "str" = none) : FnG P w K mg base CX0 11 f fd ["_law_script"] (spLaw K tb) := by
  obtain ⟨fS, dS, GS⟩ := T.src
  obtain ⟨fD, dD, GD⟩ := T.draw
  obtain ⟨fO, dO, GO⟩ := T.of_
  obtain ⟨fE, dE, GE, mE, kE, bE⟩ := T.same
  obtain ⟨fW, dW, GW⟩ := T.wide
  obtain ⟨fX, dX, GX⟩ := T.ltext
  obtain ⟨fI, dI, GI⟩ := T.rin
  obtain ⟨fT, dT, GT, kT⟩ := T.text
  obtain ⟨fR, dR, GR, kR⟩ := T.read
  have LT := T
  refine okGC F scLaw hc (fun vs H Q E h => ?_) (fun A outer s H vs Q E hG hr h => ?_)
  · obtain ⟨a, ns, rfl, _⟩ := h
    rfl
  · obtain ⟨a, ns, rfl, hS, hlen, htb, k⟩ := h
    have nd := scLaw.nd
    have hr1 : Room 1 _ := hr.mono (by decide)
    have hr2 : Room 2 _ := hr.mono (by decide)
    have hr7 : Room 7 _ := hr.mono (by decide)
    have hr8 : Room 8 _ := hr.mono (by decide)
    refine ⟨_, pss_cons (ps_set (i := 1) nd rfl (Or.inl rfl) (pe_call GS.ok hr1 (by rfl) GS.at_ GS.kp GS.bd .nil pass0 (pa_cons (pv 0) pa_nil)))
      (pss_cons (ps_for PassesOwn.never rfl (pi_range1 (by rfl) T.rng (pa_cons pe_int pa_nil)) (pg_name (i := 2) nd rfl (Or.inl rfl))
        (C8.pss_cut (ps_set (i := 3) nd rfl (Or.inl rfl) (pe_call GW.ok hr2 (by rfl) GW.at_ GW.kp GW.bd .nil pass0 (pa_cons (pv 1) pa_nil)))
        (pss_cons (ps_set (i := 4) nd rfl (Or.inl rfl) (pe_call GX.ok hr2 (by rfl) GX.at_ GX.kp GX.bd .nil pass0 (pa_cons (pv 3) pa_nil)))
        (C8.pss_cut (ps_if (pt_not (pt_val (pe_callG GE hG hr1 (by rfl) mE kE bE .nil pass0 (pa_cons (pe_lst (pa_cons (pe_callN0 GT.ok hr7 (by rfl) GT.at_ GT.kp kT passF (pk_cons (pv 3) pk_nil)) (pa_cons (pe_call GR.ok hr8 (by rfl) GR.at_ GR.kp GR.bd .nil passF (pa_cons (pv 4) pa_nil)) pa_nil)))
            (pa_cons (pe_lst (pa_cons (pv 4) (pa_cons (pv 3) pa_nil))) pa_nil))))) (pss_one (ps_ret pe_bl)) pss_nil)
        (C8.pss_cut (ps_par (i := 5) (j := 6) (by rfl) nd rfl rfl (by decide) rfl rfl (pa_cons (pe_call GD.ok hr1 (by rfl) GD.at_ GD.kp GD.bd .nil pass0 (pa_cons (pv 1) (pa_cons (pe_op op_add (pe_callB call_len (by rfl) T.len PySem.boot_len (pa_cons (pv 4) pa_nil)) pe_int) pa_nil)))
            (pa_cons (pe_call GO.ok hr2 (by rfl) GO.at_ GO.kp GO.bd .nil pass0 (pa_cons (pv 1) (pa_cons (pe_lst (pa_cons pe_str (pa_cons pe_str (pa_cons pe_str (pa_cons pe_str (pa_cons pe_str (pa_cons pe_str (pa_cons pe_str (pa_cons pe_str pa_nil))))))))) pa_nil))) pa_nil)) (by rfl))
        (C8.pss_cut (ps_set (i := 7) nd rfl (Or.inr rfl) (pe_op op_add_str (pe_op op_add_str (pe_slice sl_str (pv 4) po_none (po_some (pv 5))) (pv 6))
            (pe_slice sl_str (pv 4) (po_some (pe_op op_add (pv 5) (pe_call GD.ok hr1 (by rfl) GD.at_ GD.kp GD.bd .nil pass0 (pa_cons (pv 1) (pa_cons pe_int pa_nil))))) po_none)))
        (C8.pss_cut (ps_set (i := 8) nd rfl (Or.inl rfl) (pe_call GI.ok hr2 (by rfl) GI.at_ GI.kp GI.bd .nil pass0 (pa_cons (pv 7) pa_nil)))
        (pss_one (ps_if (pt_not (pt_val (pe_callG GE hG hr1 (by rfl) mE kE bE .nil pass0 (pa_cons (pe_ask (X := XL P w K mg base f c A outer s H E) (k := 8) (t := fun E => tCallN 0 1 (spRead K C 2) (fun us ws => ws) E tNil (tCons (tVar 7) tNil)) T.ask rfl (by rfl) (by rfl) hr (lamS_by (sc := defScope sLaw) (by decide +kernel)) rfl (fun _ _ _ _ _ => rfl)
              (fun A2 outer2 s2 H2 E2 f2 c2 hr2 => pe_callN0 (E := E2) GR.ok hr2 (by rfl) GR.at_ GR.kp kR lam_passes (pk_cons (pv 7) pk_nil)))
            (pa_cons (pe_ifExp (pt_cmpR op_isN (pv 8) pe_non (nomark _)) (pe_tup (pa_cons pe_str (pa_cons (pv 7) pa_nil))) (pe_tup (pa_cons pe_str (pa_cons (pv 8) pa_nil)))) pa_nil))))) (pss_one (ps_ret pe_bl)) pss_nil)))))))))
      (C8.pss_cut (ps_set (i := 9) nd rfl (Or.inr rfl) (pe_call GO.ok hr2 (by rfl) GO.at_ GO.kp GO.bd .nil pass0 (pa_cons (pv 1) (pa_cons (pe_lst (pa_cons pe_non (pa_cons pe_int (pa_cons (pe_tup (pa_cons pe_int (pa_cons pe_int pa_nil))) (pa_cons (pe_lst (pa_cons pe_str pa_nil)) (pa_cons pe_str (pa_cons pe_str (pa_cons pe_str (pa_cons pe_str
          (pa_cons pe_str (pa_cons pe_str (pa_cons pe_str (pa_cons pe_str (pa_cons pe_str (pa_cons pe_str (pa_cons pe_str pa_nil)))))))))))))))) pa_nil))))
      (C8.pss_cut (ps_set (i := 10) nd rfl (Or.inr rfl) (pe_call GO.ok hr2 (by rfl) GO.at_ GO.kp GO.bd .nil pass0 (pa_cons (pv 1) (pa_cons (pe_lst (pa_cons pe_non (pa_cons pe_str (pa_cons (pe_tup (pa_cons pe_int (pa_cons pe_int pa_nil))) pa_nil)))) pa_nil))))
      (C8.pss_cut (ps_set (i := 11) nd rfl (Or.inl rfl) (pe_lst (pa_cons (pe_ask (X := XL P w K mg base f c A outer s H E) (k := 8) (t := fun E => tCall (spRead K C 2) [] E (tCons (tVar 9) tNil)) T.ask rfl (by rfl) (by rfl) hr (lamS_by (sc := defScope sLaw) (by decide +kernel)) rfl (fun _ _ _ _ _ => rfl)
              (fun A2 outer2 s2 H2 E2 f2 c2 hr2 => pe_call (E := E2) GR.ok hr2 (by rfl) GR.at_ GR.kp GR.bd .nil lam_passes (pa_cons (pv 9) pa_nil)))
          (pa_cons (pe_ask0 (X := XL P w K mg base f c A outer s H E) (k := 8) (a := "_law_a") (z := 0) (t := fun E => tCall (spText K C 2) [] E (tCons (tVar 10) tNil)) T.ask rfl (by rfl) (by rfl) hr (lamD_by (sc := defScope sLaw) (N := NL) (by decide +kernel)) rfl rfl
              (fun q cl pm cv ctv u D s2 hD => .of_defaults (T := D) rfl hD rfl rfl rfl)
              (fun A2 outer2 s2 H2 E2 f2 c2 hr2 => pe_call (E := E2) GT.ok (hr2.mono (by decide)) (by rfl) GT.at_ GT.kp GT.bd .nil lam_passes (pa_cons (pv 10) pa_nil)))
          (pa_cons (pe_call GT.ok hr7 (by rfl) GT.at_ GT.kp GT.bd .nil passF (pa_cons (pe_un un_neg pe_int) pa_nil)) pa_nil)))))
      (C8.pss_cut (ps_if (pt_not (pt_val (pe_callG GE hG hr1 (by rfl) mE kE bE .nil pass0 (pa_cons (pv 11) (pa_cons (pe_lst (pa_cons (pe_tup (pa_cons pe_str (pa_cons (pv 9) pa_nil))) (pa_cons (pe_tup (pa_cons pe_str (pa_cons (pv 10) pa_nil))) (pa_cons pe_str pa_nil)))) pa_nil))))) (pss_one (ps_ret pe_bl)) pss_nil)
      (pss_cons (ps_asg (pe_tup (pa_cons (pe_op op_mul_str pe_str pe_int) (pa_cons (pe_op op_mul_str pe_str pe_int) pa_nil))) (pg_tup (by rfl) (pgs_cons (pg_name (i := 12) nd rfl (Or.inr rfl)) (pgs_cons (pg_name (i := 13) nd rfl (Or.inr rfl)) pgs_nil))))
      (C8.pss_cut (ps_set (i := 11) nd rfl (Or.inl rfl) (pe_lst (pa_cons (pe_ask (X := XL P w K mg base f c A outer s H E) (k := 8) (t := fun E => tCall (spRead K C 2) [] E (tCons (tVar 12) tNil)) T.ask rfl (by rfl) (by rfl) hr (lamS_by (sc := defScope sLaw) (by decide +kernel)) rfl (fun _ _ _ _ _ => rfl)
              (fun A2 outer2 s2 H2 E2 f2 c2 hr2 => pe_call (E := E2) GR.ok hr2 (by rfl) GR.at_ GR.kp GR.bd .nil lam_passes (pa_cons (pv 12) pa_nil)))
          (pa_cons (pe_ask0 (X := XL P w K mg base f c A outer s H E) (k := 8) (a := "_law_a") (z := 0) (t := fun E => tCall (spRead K C 2) [] E (tCons (tOp (fun x y H Q => ∃ i j, x = .str i ∧ y = .str j ∧ i.length + j.length ≤ sizeLine ∧ Q (.str (i ++ j)) H) (tC (.str "-1/")) (tVar 12)) tNil)) T.ask rfl (by rfl) (by rfl) hr (lamD_by (sc := defScope sLaw) (N := NL) (by decide +kernel)) rfl rfl
              (fun q cl pm cv ctv u D s2 hD => .of_defaults (T := D) rfl hD rfl rfl rfl)
              (fun A2 outer2 s2 H2 E2 f2 c2 hr2 => pe_call (E := E2) GR.ok hr2 (by rfl) GR.at_ GR.kp GR.bd .nil lam_passes (pa_cons (pe_op op_add_str pe_str (pv 12)) pa_nil)))
          (pa_cons (pe_ask0 (X := XL P w K mg base f c A outer s H E) (k := 8) (a := "_law_b") (z := 0) (t := fun E => tCall (spRead K C 2) [] E (tCons (tVar 13) tNil)) T.ask rfl (by rfl) (by rfl) hr (lamD_by (sc := defScope sLaw) (N := NL) (by decide +kernel)) rfl rfl
              (fun q cl pm cv ctv u D s2 hD => .of_defaults (T := D) rfl hD rfl rfl rfl)
              (fun A2 outer2 s2 H2 E2 f2 c2 hr2 => pe_call (E := E2) GR.ok hr2 (by rfl) GR.at_ GR.kp GR.bd .nil lam_passes (pa_cons (pv 13) pa_nil)))
          (pa_cons (pe_ask0 (X := XL P w K mg base f c A outer s H E) (k := 8) (a := "_law_c") (z := 0) (t := fun E => tCall (spRead K C 2) [] E (tCons (tOp (fun x y H Q => ∃ i j, x = .str i ∧ y = .str j ∧ i.length + j.length ≤ sizeLine ∧ Q (.str (i ++ j)) H) (tC (.str "1/")) (tVar 13)) tNil)) T.ask rfl (by rfl) (by rfl) hr (lamD_by (sc := defScope sLaw) (N := NL) (by decide +kernel)) rfl rfl
              (fun q cl pm cv ctv u D s2 hD => .of_defaults (T := D) rfl hD rfl rfl rfl)
              (fun A2 outer2 s2 H2 E2 f2 c2 hr2 => pe_call (E := E2) GR.ok hr2 (by rfl) GR.at_ GR.kp GR.bd .nil lam_passes (pa_cons (pe_op op_add_str pe_str (pv 13)) pa_nil))) pa_nil))))))
      (pss_one (ps_ret (pe_callG GE hG hr1 (by rfl) mE kE bE .nil pass0 (pa_cons (pv 11) (pa_cons (pe_lst (pa_cons (pe_tup (pa_cons pe_str (pa_cons (pe_tup (pa_cons (pe_callTy call_int_str (by rfl) T.int (by decide +kernel) (pa_cons (pv 12) pa_nil)) (pa_cons pe_int pa_nil))) pa_nil)))
          (pa_cons (pe_tup (pa_cons pe_str (pa_cons (pe_tup (pa_cons (pe_un un_neg pe_int) (pa_cons (pe_callTy call_int_str (by rfl) T.int (by decide +kernel) (pa_cons (pv 12) pa_nil)) pa_nil))) pa_nil)))
          (pa_cons (pe_tup (pa_cons pe_str (pa_cons (pv 13) pa_nil))) (pa_cons (pe_tup (pa_cons pe_str (pa_cons (pe_op op_add_str pe_str (pv 13)) pa_nil))) pa_nil))))) pa_nil)))))))))))), ?_⟩
    have two : (2 : Nat) ≤ sizeLine := by decide
    have e1860 : (10 : Nat) ^ 18 + 1 < 10 ^ 60 := by decide +kernel
    refine ⟨_, rfl, a, ns, rfl, hS, hlen, fun p q H1 hp0 hq0 sm1 S1 => ?_⟩
    have tb1 : Tabs [(tb, lamQ)] H1 := fun r hr => by
      rw [List.mem_singleton.mp hr]
      exact TabS.nil (sm1 _ _ htb)
    refine ⟨8, rfl, by decide, by decide, for_range (lo := 0) (n := 8) (fun i σ G => ∃ o2 o3 o4 o5 o6 o7 o8 : Option V, σ = [some (.ref a), some (.ref p), o2, o3, o4, o5, o6, o7, o8, none, none, none, none, none] ∧ Gd tb p q G)
      ⟨none, none, none, none, none, none, none, rfl, ⟨_, S1⟩, tb1⟩ ?_ ?_⟩
    · rintro i σ G hi ⟨o2, o3, o4, o5, o6, o7, o8, rfl, g0⟩
      -- the pair
      refine ⟨fun σ G => ∃ (T : Addr) (t b : Int) (o2 o4 o5 o6 o7 o8 : Option V), σ = [some (.ref a), some (.ref p), o2, some (.ref T), o4, o5, o6, o7, o8, none, none, none, none, none] ∧ T ≠ p ∧ G T = some (.tup [.int t, .int b]) ∧ isRat (.tuple [.int t, .int b]) = true ∧ t.natAbs < 10 ^ 18 + 1 ∧ b.natAbs < 10 ^ 18 + 1 ∧ Gd tb p q G, ?_, ?_⟩
      · obtain ⟨cells, S0⟩ := g0.src
        refine ⟨_, rfl, p, q, cells, rfl, S0, fun v s Ga hv hr hb Sa Xa => ?_⟩
        obtain ⟨T, rfl, nT, hT⟩ := hv
        exact ⟨T, s.1, s.2, _, _, _, _, _, _, rfl, nT, hT, hr, hb.1, hb.2, g0.ex Xa Sa⟩
      clear g0
      rintro σ G ⟨T, t, b, o2, o4, o5, o6, o7, o8, rfl, nT, hT, hrat, ht, hb, g1⟩
      have t60 : t.natAbs < 10 ^ 60 := Nat.lt_trans ht e1860
      have b60 : b.natAbs < 10 ^ 60 := Nat.lt_trans hb e1860
      have r2 : (true && (true && (decide (1 ≤ b) && decide (Nat.gcd t.natAbs b.natAbs = 1)))) = true := hrat
      simp only [Bool.and_eq_true, decide_eq_true_eq, true_and] at r2
      obtain ⟨bp, bg⟩ := r2
      have hl := text_40 ht hb
      have h128 := text_128 t b
      have isR : IsR t b (textL t b) := ⟨bp, bg, rfl⟩
      have rd : Reads (.str (Tx (textL t b))) t b := ⟨⟨_, rfl, isR⟩, t60, b60⟩
      refine ⟨_, rfl, T, (t, b), rfl, SqT.of hT, t60, b60, bp, ?_⟩
      -- its text, read back
      refine ⟨fun σ G => ∃ (o2 o3 o5 o6 o7 o8 : Option V), σ = [some (.ref a), some (.ref p), o2, o3, some (.str (Tx (textL t b))), o5, o6, o7, o8, none, none, none, none, none] ∧ Gd tb p q G, ?_, ?_⟩
      · have dp : ∀ {H' : Hp} {T : Addr}, SqT K H' T [.int t, .int b] → Dp K H' (.ref T) (.tuple [.int t, .int b]) := fun h => .tup h (.cons (.int _) (.cons (.int _) .nil))
        have ok : okR (.tuple [.int t, .int b]) = true := by unfold okR; rw [hrat, Bool.or_true]
        refine ⟨_, rfl, rfl, rfl, .ref T, .tuple [.int t, .int b], rfl, dp (SqT.of hT), rfl, fun _ => ⟨t60, b60, fun Ga s1 => ?_⟩, fun no => absurd (ok.symm.trans no) (by decide)⟩
        refine ⟨_, rfl, .str (Tx (textL t b)), .str (Tx (textL t b)), rfl, .str _, rfl, (fun z hz => by cases hz; rw [tx_len]; omega), fun t' b' hr T2 Gb s2 hT2 => ?_, fun no => absurd rd (no t b)⟩
        obtain ⟨rfl, rfl⟩ := hr.str.uniq isR
        refine ⟨two, fun L1 hL1 => ⟨_, rfl, _, rfl, two, fun L2 hL2 => ?_⟩⟩
        have m1 := same_upd (o := .lst [.str (Tx (textL t' b')), .ref T2]) hL1
        have m2 := same_upd (o := .lst [.str (Tx (textL t' b')), .ref T]) hL2
        have eq : decide ((twoD (textL t' b') t' b').shown = (twoD (textL t' b') t' b').shown) = true := decide_eq_true rfl
        have sm := two_sm h128 (by omega) t60 b60
        refine ⟨.ref L1, .ref L2, twoD (textL t' b') t' b', twoD (textL t' b') t' b', rfl, .lst (SqL.of (m2 _ _ upd_same)) (.cons (.str _) (.cons (dp (Same.tup (m1.trans m2) hT2)) .nil)), .lst (SqL.of upd_same) (.cons (.str _) (.cons (dp (SqT.of (((s1.trans s2).trans (m1.trans m2)) _ _ hT))) .nil)), sm, sm, _, rfl, ?_⟩
        rw [eq]
        exact iteF ⟨_, _, _, _, _, _, rfl, ((g1.same (s1.trans s2)).same m1).same m2⟩
      clear g1 hT
      rintro σ G ⟨o2, o3, o5, o6, o7, o8, rfl, g1⟩
      -- a place and a sign
      refine ⟨fun σ G => ∃ (n : Nat) (z : List Nat) (o2 o3 o7 o8 : Option V), n ≤ 200 ∧ z.length ≤ 2 ∧ (∀ c ∈ z, c < 128) ∧ σ = [some (.ref a), some (.ref p), o2, o3, some (.str (Tx (textL t b))), some (.int n), some (.str (Tx z)), o7, o8, none, none, none, none, none] ∧ Gd tb p q G, ?_, ?_⟩
      · obtain ⟨cells, S0⟩ := g1.src
        refine ⟨_, rfl, _, rfl, _, (Tx (textL t b)).length, rfl, ⟨fits_line (by rw [tx_len]; omega), rfl⟩, _, _, rfl, rfl, p, q, cells, _, rfl, S0, by omega, by rw [tx_len]; omega, fun n Ga n0 n1 Sa Ba => ?_⟩
        rw [tx_len] at n1
        obtain ⟨n, rfl⟩ := Int.eq_ofNat_of_zero_le n0
        refine ⟨_, rfl, by show 8 ≤ sizeLine; decide, fun L hL => ?_⟩
        have mL := same_upd (o := .lst (signs.map V.str)) hL
        have nL : L ≠ p := fun zz => by
          obtain ⟨u, hu⟩ := Sa.at'
          rw [← zz, hL] at hu
          cases hu
        refine ⟨p, q, cells, _, rfl, Sa.on mL, .inl ⟨L, signs.map V.str, rfl, fun H' B' => .inl (SqL.of ((B' L nL).trans upd_same)), by decide, by decide, fun j x H' hx S' B' => ?_⟩⟩
        obtain ⟨z, hz, rfl⟩ : ∃ z ∈ signs, x = V.str z := by
          have := List.mem_of_getElem? hx
          obtain ⟨z, hz, e⟩ := List.mem_map.mp this
          exact ⟨z, hz, e.symm⟩
        obtain ⟨z1, z2⟩ := signs_ok z hz
        refine ⟨_, _, rfl, n, z.cps.toList, _, _, _, _, by omega, by simpa [Str.length] using z1, z2, rfl, ((g1.ex (Ex.of Ba) Sa).same mL).ex (Ex.of B') S'⟩
      clear g1
      rintro σ G ⟨n, z, o2, o3, o7, o8, hn, hz, z128, rfl, g1⟩
      -- the text bent
      refine ⟨fun σ G => ∃ (l : List Nat) (o2 o3 o4 o5 o6 o8 : Option V), l.length ≤ 60 ∧ (∀ c ∈ l, c < 128) ∧ σ = [some (.ref a), some (.ref p), o2, o3, o4, o5, o6, some (.str (Tx l)), o8, none, none, none, none, none] ∧ Gd tb p q G, ?_, ?_⟩
      · obtain ⟨cells, S0⟩ := g1.src
        refine ⟨_, rfl, _, rfl, _, rfl, Tx (textL t b), rfl, fits_line (by rw [tx_len]; omega), _, rfl, _, _, rfl, rfl, ?_, ?_⟩
        · refine fits_line ?_
          have z1 : (cutS (Tx (textL t b)) none (some (n : Int))).length ≤ (textL t b).length := Nat.le_trans (cutS_length _ _ _) (Nat.le_of_eq (tx_len _))
          have z3 : (Tx z).length = z.length := tx_len z
          omega
        refine ⟨_, rfl, _, rfl, _, rfl, p, q, cells, 2, rfl, S0, by decide, by decide, fun r Ga r0 r1 Sa Ba => ?_⟩
        obtain ⟨r, rfl⟩ := Int.eq_ofNat_of_zero_le r0
        refine ⟨_, _, rfl, rfl, _, rfl, Tx (textL t b), rfl, fits_line (by rw [tx_len]; omega), _, _, rfl, rfl, ?_, ?_⟩
        · refine fits_line ?_
          have z1 : (cutS (Tx (textL t b)) none (some (n : Int))).length ≤ (textL t b).length := Nat.le_trans (cutS_length _ _ _) (Nat.le_of_eq (tx_len _))
          have z2 : (cutS (Tx (textL t b)) (some ((n : Int) + (r : Int))) none).length ≤ (textL t b).length := Nat.le_trans (cutS_length _ _ _) (Nat.le_of_eq (tx_len _))
          have z3 : (Tx z).length = z.length := tx_len z
          have z4 := strLen_append (cutS (Tx (textL t b)) none (some (n : Int))) (Tx z)
          show (cutS (Tx (textL t b)) none (some (n : Int)) ++ Tx z).length + (cutS (Tx (textL t b)) (some ((n : Int) + (r : Int))) none).length ≤ 1000
          omega
        · have e1 : cutS (Tx (textL t b)) none (some (n : Int)) = Tx ((textL t b).take n) := by
            rw [C8.cutS_slice, SX.slice_to (by omega), Int.toNat_natCast]
          have e2 : cutS (Tx (textL t b)) (some ((n : Int) + (r : Int))) none = Tx ((textL t b).drop (n + r)) := by
            rw [C8.cutS_slice, SX.slice_from (by omega), show (n : Int) + (r : Int) = ((n + r : Nat) : Int) by omega, Int.toNat_natCast]
          refine ⟨(textL t b).take n ++ z ++ (textL t b).drop (n + r), o2, o3, some (.str (Tx (textL t b))), some (.int n), some (.str (Tx z)), o8, ?_, fun c hc => ?_, ?_, g1.ex (Ex.of Ba) Sa⟩
          · rw [List.length_append, List.length_append, List.length_take, List.length_drop]
            omega
          · rcases List.mem_append.mp hc with h | h
            · rcases List.mem_append.mp h with h | h
              · exact h128 c (List.mem_of_mem_take h)
              · exact z128 c h
            · exact h128 c (List.mem_of_mem_drop h)
          · rw [e1, e2, tx_app, tx_app]
            rfl
      clear g1 hn z128 hz rd isR bg bp hrat
      rintro σ G ⟨l, o2, o3, o4, o5, o6, o8, ll, l128, rfl, g1⟩
      refine ⟨fun σ G => ∃ (v : V) (o2 o3 o4 o5 o6 : Option V), ((∃ (T : Addr) (t b : Int), v = .ref T ∧ IsR t b l ∧ SqT K G T [.int t, .int b]) ∨ (v = .non ∧ ∀ t b, ¬ IsR t b l)) ∧ σ = [some (.ref a), some (.ref p), o2, o3, o4, o5, o6, some (.str (Tx l)), some v, none, none, none, none, none] ∧ Gd tb p q G, ?_, ?_⟩
      · refine ⟨_, rfl, l, rfl, by omega, l128, fun t b hR T G2 sm hT => ?_, fun no G2 sm => ?_⟩
        · exact ⟨_, _, _, _, _, _, .inl ⟨T, t, b, rfl, hR, hT⟩, rfl, g1.same sm⟩
        · exact ⟨_, _, _, _, _, _, .inr ⟨rfl, no⟩, rfl, g1.same sm⟩
      clear g1
      rintro σ G ⟨v, o2, o3, o4, o5, o6, hv, rfl, g1⟩
      -- asked
      rcases hv with ⟨T, t1, b1, rfl, hR, hT⟩ | ⟨rfl, no⟩
      · obtain ⟨s1, s2⟩ := isR_small hR ll
        have rd : Reads (.str (Tx l)) t1 b1 := ⟨⟨_, rfl, hR⟩, s1, s2⟩
        refine ⟨g1.tabs, fun H2 x2 t2 => ⟨_, rfl, rfl, rfl, ask_read LT.own LT.exm (.str (Tx l)) rfl (fun z hz => by cases hz; rw [tx_len]; omega) (fun t' b' hr T2 G2 sm2 d2 => ?_) fun no => absurd rd (no t1 b1)⟩⟩
        obtain ⟨rfl, rfl⟩ := hr.str.uniq hR
        refine ⟨_, rfl, rfl, _, rfl, iteF ⟨_, rfl, two, fun T3 h3 => ?_⟩⟩
        have m3 := same_upd (o := .tup [.str "", .ref T]) h3
        have dT : Dp K G2 (.ref T) (.tuple [.int t', .int b']) := Dp.same sm2 _ _ (Dp.grown x2 (.tup hT (.cons (.int _) (.cons (.int _) .nil))))
        have eq : decide ((gotD t' b').shown = (gotD t' b').shown) = true := decide_eq_true rfl
        have sm := got_sm s1 s2
        refine ⟨.ref T2, .ref T3, gotD t' b', gotD t' b', rfl, Dp.same m3 _ _ d2, .tup (SqT.of upd_same) (.cons (.str _) (.cons (Dp.same m3 _ _ dT) .nil)), sm, sm, _, rfl, ?_⟩
        rw [eq]
        exact iteF ⟨_, _, _, _, _, _, _, rfl, ((g1.grown x2 t2).same sm2).same m3⟩
      · refine ⟨g1.tabs, fun H2 x2 t2 => ⟨_, rfl, rfl, rfl, ask_read LT.own LT.exm (.str (Tx l)) rfl (fun z hz => by cases hz; rw [tx_len]; omega) (fun t' b' hr => absurd hr.str (no t' b')) fun _ T2 G2 sm2 d2 => ?_⟩⟩
        refine ⟨_, rfl, rfl, _, rfl, iteT ⟨_, rfl, two, fun T3 h3 => ?_⟩⟩
        have m3 := same_upd (o := .tup [.str "InvalidRatio", .str (Tx l)]) h3
        have eq : decide ((badD (.str (Tx l))).shown = (badD (.str (Tx l))).shown) = true := decide_eq_true rfl
        have sm := bad_sm l128 (by omega)
        refine ⟨.ref T2, .ref T3, badD (.str (Tx l)), badD (.str (Tx l)), rfl, Dp.same m3 _ _ d2, .tup (SqT.of upd_same) (.cons (.str _) (.cons (.str _) .nil)), sm, sm, _, rfl, ?_⟩
        rw [eq]
        exact iteF ⟨_, _, _, _, _, _, _, rfl, ((g1.grown x2 t2).same sm2).same m3⟩
    · rintro σ G ⟨o2, o3, o4, o5, o6, o7, o8, rfl, g0⟩
      -- an odd value
      refine ⟨fun σ G => ∃ (x : V) (d : PyData) (o2 o3 o4 o5 o6 o7 o8 : Option V), σ = [some (.ref a), some (.ref p), o2, o3, o4, o5, o6, o7, o8, some x, none, none, none, none] ∧ Dp K (wos [p] G) x d ∧ Odd d ∧ Gd tb p q G, ?_, ?_⟩
      · obtain ⟨cells, S0⟩ := g0.src
        have ne : ∀ {G' : Hp} {u : Addr}, Same G G' → G' u = none → u ≠ p := fun {G' u} s e z => by
          obtain ⟨⟨i, cc, sd, n, h1, _⟩, _⟩ := S0.on s
          rw [z, h1] at e
          cases e
        refine ⟨_, rfl, two, fun a1 h1 => ⟨by show 1 ≤ sizeLine; decide, fun a2 h2 => ⟨by show 15 ≤ sizeLine; decide, fun u hu => ?_⟩⟩⟩
        have m1 := same_upd (o := .tup [.int 1, .int 1]) h1
        have m2 := same_upd (o := .lst [.str "1"]) h2
        have mu := same_upd (o := .lst ([.non, .int 3, .ref a1, .ref a2] ++ oddS.map V.str)) hu
        have s2 := m1.trans m2
        refine ⟨p, q, cells, .ref u, rfl, S0.on (s2.trans mu), .inl ⟨u, _, rfl, fun H' B => .inl (SqL.of ((B u (ne s2 hu)).trans upd_same)), by show 0 < 15; decide, by show 15 < 1000000; decide, fun i x H4 hx S4 B4 => ?_⟩⟩
        have out : ∀ {u : Addr}, u ≠ p → wos [p] H4 u = H4 u := fun {u} n => wos_out fun z => n (List.mem_singleton.mp z)
        have b1 : wos [p] H4 a1 = some (.tup [.int 1, .int 1]) := (out (ne (Same.refl G) h1)).trans ((B4 a1 (ne (Same.refl G) h1)).trans ((m2.trans mu) _ _ upd_same))
        have b2 : wos [p] H4 a2 = some (.lst [.str "1"]) := (out (ne m1 h2)).trans ((B4 a2 (ne m1 h2)).trans (mu _ _ upd_same))
        have key : ∃ d, Dp K (wos [p] H4) x d ∧ Odd d := by
          match i, hx with
          | 0, e => cases e; exact ⟨.none, .non, odd_other (fun x z => by cases z) rfl (by decide +kernel)⟩
          | 1, e => cases e; exact ⟨.int 3, .int _, odd_other (fun x z => by cases z) rfl (by decide +kernel)⟩
          | 2, e => cases e; exact ⟨.tuple [.int 1, .int 1], .tup (SqT.of b1) (.cons (.int _) (.cons (.int _) .nil)), odd_other (fun x z => by cases z) (by decide +kernel) (by decide +kernel)⟩
          | 3, e => cases e; exact ⟨.list [.str "1"], .lst (SqL.of b2) (.cons (.str _) .nil), odd_other (fun x z => by cases z) (by decide +kernel) (by decide +kernel)⟩
          | 4, e => cases e; exact ⟨.str "", .str _, oddS_ok _ (by decide +kernel)⟩
          | 5, e => cases e; exact ⟨.str "-", .str _, oddS_ok _ (by decide +kernel)⟩
          | 6, e => cases e; exact ⟨.str "/", .str _, oddS_ok _ (by decide +kernel)⟩
          | 7, e => cases e; exact ⟨.str "-0", .str _, oddS_ok _ (by decide +kernel)⟩
          | 8, e => cases e; exact ⟨.str "2/4", .str _, oddS_ok _ (by decide +kernel)⟩
          | 9, e => cases e; exact ⟨.str "1/0", .str _, oddS_ok _ (by decide +kernel)⟩
          | 10, e => cases e; exact ⟨.str "01", .str _, oddS_ok _ (by decide +kernel)⟩
          | 11, e => cases e; exact ⟨.str "0/1", .str _, oddS_ok _ (by decide +kernel)⟩
          | 12, e => cases e; exact ⟨.str "1/-2", .str _, oddS_ok _ (by decide +kernel)⟩
          | 13, e => cases e; exact ⟨.str "--1", .str _, oddS_ok _ (by decide +kernel)⟩
          | 14, e => cases e; exact ⟨.str "1/", .str _, oddS_ok _ (by decide +kernel)⟩
          | n + 15, e => cases e
        obtain ⟨d, k1, k2⟩ := key
        exact ⟨x, d, _, _, _, _, _, _, _, rfl, k1, k2, (g0.same (s2.trans mu)).ex (Ex.of B4) S4⟩
      clear g0
      rintro σ G ⟨x, d, o2, o3, o4, o5, o6, o7, o8, rfl, hx, od, g0⟩
      -- a bad one
      refine ⟨fun σ G => ∃ (y : V) (e : PyData) (o2 o3 o4 o5 o6 o7 o8 : Option V), σ = [some (.ref a), some (.ref p), o2, o3, o4, o5, o6, o7, o8, some x, some y, none, none, none] ∧ Dp K G x d ∧ Dp K G y e ∧ Bad e ∧ Gd tb p q G, ?_, ?_⟩
      · obtain ⟨cells, S0⟩ := g0.src
        have ne : ∀ {G' : Hp} {u : Addr}, Same G G' → G' u = none → u ≠ p := fun {G' u} s e z => by
          obtain ⟨⟨i, cc, sd, n, h1, _⟩, _⟩ := S0.on s
          rw [z, h1] at e
          cases e
        refine ⟨_, rfl, two, fun a1 h1 => ⟨by show 3 ≤ sizeLine; decide, fun u hu => ?_⟩⟩
        have m1 := same_upd (o := .tup [.int 2, .int 2]) h1
        have mu := same_upd (o := .lst [.non, .str "1", .ref a1]) hu
        refine ⟨p, q, cells, .ref u, rfl, S0.on (m1.trans mu), .inl ⟨u, _, rfl, fun H' B => .inl (SqL.of ((B u (ne m1 hu)).trans upd_same)), by show 0 < 3; decide, by show 3 < 1000000; decide, fun i y H4 hy S4 B4 => ?_⟩⟩
        have b1 : H4 a1 = some (.tup [.int 2, .int 2]) := (B4 a1 (ne (Same.refl G) h1)).trans (mu _ _ upd_same)
        have key : ∃ e, Dp K H4 y e ∧ Bad e := by
          match i, hy with
          | 0, e => cases e; exact ⟨.none, .non, rfl, by decide +kernel, by decide +kernel⟩
          | 1, e => cases e; exact ⟨.str "1", .str _, rfl, by decide +kernel, by decide +kernel⟩
          | 2, e => cases e; exact ⟨.tuple [.int 2, .int 2], .tup (SqT.of b1) (.cons (.int _) (.cons (.int _) .nil)), by decide +kernel, by decide +kernel, by decide +kernel⟩
          | n + 3, e => cases e
        obtain ⟨e, k1, k2⟩ := key
        have s4 := m1.trans mu
        refine ⟨y, e, _, _, _, _, _, _, _, rfl, ?_, k1, k2, (g0.same s4).ex (Ex.of B4) S4⟩
        exact Dp.same (Same.trans (Exs.of (S := [p]) s4) ((Exs.but (List.mem_singleton.mpr rfl) B4).trans wos_sub)) _ _ hx
      clear g0 hx
      rintro σ G ⟨y, e, o2, o3, o4, o5, o6, o7, o8, rfl, hx, hy, bd, g0⟩
      refine ⟨fun σ G => ∃ (L : Addr) (o2 o3 o4 o5 o6 o7 o8 : Option V), σ = [some (.ref a), some (.ref p), o2, o3, o4, o5, o6, o7, o8, some x, some y, some (.ref L), none, none] ∧ Dp K G x d ∧ Dp K G y e ∧ Dp K G (.ref L) (oddD d e) ∧ Gd tb p q G, ?_, ?_⟩
      · refine ⟨g0.tabs, fun H2 x2 t2 => ⟨_, rfl, ask_read LT.own LT.exm (Dp.grown x2 hx) od.fit od.len (fun t b hr => absurd hr (od.no t b)) fun _ T2 G2 s2 d2 => ?_⟩⟩
        have hx2 := Dp.same s2 _ _ (Dp.grown x2 hx)
        have hy2 := Dp.same s2 _ _ (Dp.grown x2 hy)
        have g2 := (g0.grown x2 t2).same s2
        refine ⟨g2.tabs, fun H3 x3 t3 => ⟨_, rfl, ask_text LT.own LT.exm (Dp.grown x3 hy2) bd.fit bd.no fun T3 G3 s3 d3 => ?_⟩⟩
        have hx3 := Dp.same s3 _ _ (Dp.grown x3 hx2)
        have hy3 := Dp.same s3 _ _ (Dp.grown x3 hy2)
        have g3 := (g2.grown x3 t3).same s3
        refine ⟨7, rfl, .int (-7), .int (-7), rfl, .int _, rfl, (fun _ => ⟨by decide +kernel, by decide +kernel, fun G4 s4 => ?_⟩), fun no => by cases no⟩
        refine ⟨by show 3 ≤ sizeLine; decide, fun L hL => ?_⟩
        have mL := same_upd (o := .lst [.ref T2, .ref T3, .str (Tx (textL (-7) 1))]) hL
        have s5 := s4.trans mL
        refine ⟨L, _, _, _, _, _, _, _, rfl, Dp.same s5 _ _ hx3, Dp.same s5 _ _ hy3, .lst (SqL.of upd_same) (.cons ?_ (.cons (Dp.same s5 _ _ d3) (.cons ?_ .nil))), g3.same s5⟩
        · exact Dp.same s5 _ _ (Dp.same s3 _ _ (Dp.grown x3 d2))
        · have e : Tx (textL (-7) 1) = ("-7" : Str) := by rw [neg7]
          show Dp K _ (.str (Tx (textL (-7) 1))) _
          rw [e]
          exact .str _
      clear g0 hx hy
      rintro σ G ⟨L, o2, o3, o4, o5, o6, o7, o8, rfl, hx, hy, hL, g0⟩
      refine ⟨fun σ G => ∃ (o2 o3 o4 o5 o6 o7 o8 o9 o10 o11 : Option V), σ = [some (.ref a), some (.ref p), o2, o3, o4, o5, o6, o7, o8, o9, o10, o11, none, none] ∧ Gd tb p q G, ?_, ?_⟩
      · refine ⟨_, rfl, _, rfl, two, fun T1 h1 => ⟨_, rfl, two, fun T2 h2 => ⟨by show 3 ≤ sizeLine; decide, fun L2 hL2 => ?_⟩⟩⟩
        have m1 := same_upd (o := .tup [.str "InvalidRatio", x]) h1
        have m2 := same_upd (o := .tup [.str "InvalidRatio", y]) h2
        have m3 := same_upd (o := .lst [.ref T1, .ref T2, .str "-7"]) hL2
        have sA := (m1.trans m2).trans m3
        have sO := odd_sm od.sm bd.sm
        have eq : decide ((oddD d e).shown = (oddD d e).shown) = true := decide_eq_true rfl
        refine ⟨.ref L, .ref L2, oddD d e, oddD d e, rfl, Dp.same sA _ _ hL, .lst (SqL.of upd_same) (.cons (.tup (SqT.of ((m2.trans m3) _ _ upd_same)) (.cons (.str _) (.cons (Dp.same sA _ _ hx) .nil))) (.cons (.tup (SqT.of (m3 _ _ upd_same)) (.cons (.str _) (.cons (Dp.same sA _ _ hy) .nil))) (.cons (.str _) .nil))), sO, sO, _, rfl, ?_⟩
        rw [eq]
        exact iteF ⟨_, _, _, _, _, _, _, _, _, _, rfl, g0.same sA⟩
      clear g0 hx hy hL
      rintro σ G ⟨o2, o3, o4, o5, o6, o7, o8, o9, o10, o11, rfl, g0⟩
      -- as many figures as can be, and one more
      refine ⟨"7", 60, rfl, rfl, by decide, by decide, by decide, by decide, "7", 61, rfl, rfl, by decide, by decide, by decide, by decide, two, fun T1 h1 => ⟨T1, _, rfl, SqT.of upd_same, rfl, _, _, rfl, _, _, rfl, rfl, ?_⟩⟩
      have m1 := same_upd (o := .tup [.str ⟨((List.replicate 60 ("7" : Str).cps.toList).flatten).toArray⟩, .str ⟨((List.replicate 61 ("7" : Str).cps.toList).flatten).toArray⟩]) h1
      have g1 := g0.same m1
      generalize upd G T1 (.tup [.str ⟨((List.replicate 60 ("7" : Str).cps.toList).flatten).toArray⟩, .str ⟨((List.replicate 61 ("7" : Str).cps.toList).flatten).toArray⟩]) = G1 at *
      clear g0 m1 h1
      rw [e60, e61]
      refine ⟨fun σ G => ∃ (L : Addr) (o2 o3 o4 o5 o6 o7 o8 o9 o10 : Option V), σ = [some (.ref a), some (.ref p), o2, o3, o4, o5, o6, o7, o8, o9, o10, some (.ref L), some (.str (Tx m60)), some (.str (Tx m61))] ∧ Dp K G (.ref L) lastD, ?_, ?_⟩
      · refine ⟨g1.tabs, fun H2 x2 t2 => ⟨_, rfl, ask_read LT.own LT.exm (.str (Tx m60)) rfl (fun z hz => by cases hz; decide) (fun t b hr T2 G2 s2 d2 => ?_) fun no => absurd rd60 (no _ _)⟩⟩
        obtain ⟨rfl, rfl⟩ := hr.str.uniq is60
        have g2 := (g1.grown x2 t2).same s2
        refine ⟨g2.tabs, fun H3 x3 t3 => ⟨_, rfl, _, _, rfl, rfl, by decide, ?_⟩⟩
        rw [e60m]
        refine ask_read LT.own LT.exm (.str (Tx l60)) rfl (fun z hz => by cases hz; decide) (fun t b hr T3 G3 s3 d3 => ?_) fun no => absurd rd60m (no _ _)
        obtain ⟨rfl, rfl⟩ := hr.str.uniq is60m
        have g3 := (g2.grown x3 t3).same s3
        refine ⟨g3.tabs, fun H4 x4 t4 => ⟨_, rfl, ask_read LT.own LT.exm (.str (Tx m61)) rfl (fun z hz => by cases hz; decide) (fun t b hr => absurd hr (no61 t b)) fun _ T4 G4 s4 d4 => ?_⟩⟩
        have g4 := (g3.grown x4 t4).same s4
        refine ⟨g4.tabs, fun H5 x5 t5 => ⟨_, rfl, _, _, rfl, rfl, by decide, ?_⟩⟩
        rw [e61m]
        refine ask_read LT.own LT.exm (.str (Tx l61)) rfl (fun z hz => by cases hz; decide) (fun t b hr => absurd hr (no61m t b)) fun _ T5 G5 s5 d5 => ?_
        refine ⟨by show 4 ≤ sizeLine; decide, fun L hL => ?_⟩
        have mL := same_upd (o := .lst [.ref T2, .ref T3, .ref T4, .ref T5]) hL
        refine ⟨L, _, _, _, _, _, _, _, _, _, rfl, .lst (SqL.of upd_same) (.cons ?_ (.cons ?_ (.cons ?_ (.cons (Dp.same mL _ _ d5) .nil))))⟩
        · exact Dp.same mL _ _ (Dp.same s5 _ _ (Dp.grown x5 (Dp.same s4 _ _ (Dp.grown x4 (Dp.same s3 _ _ (Dp.grown x3 d2))))))
        · exact Dp.same mL _ _ (Dp.same s5 _ _ (Dp.grown x5 (Dp.same s4 _ _ (Dp.grown x4 d3))))
        · exact Dp.same mL _ _ (Dp.same s5 _ _ (Dp.grown x5 d4))
      clear g1
      rintro σ G ⟨L, o2, o3, o4, o5, o6, o7, o8, o9, o10, rfl, hL⟩
      refine ⟨_, rfl, _, rfl, Tx m60, _, rfl, int60, by decide, two, fun Ta hTa => ⟨two, fun Tb hTb => ?_⟩⟩
      refine ⟨1, rfl, _, rfl, Tx m60, _, rfl, int60, by decide, two, fun Tc hTc => ⟨two, fun Td hTd => ?_⟩⟩
      refine ⟨_, rfl, two, fun Te hTe => ⟨_, rfl, _, _, rfl, rfl, by decide, two, fun Tf hTf => ⟨by show 4 ≤ sizeLine; decide, fun Lg hLg => ?_⟩⟩⟩
      have ma := same_upd (o := .tup [.int n60, .int 1]) hTa
      have mb := same_upd (o := .tup [.str "", .ref Ta]) hTb
      have mc := same_upd (o := .tup [.int (-1), .int n60]) hTc
      have md := same_upd (o := .tup [.str "", .ref Tc]) hTd
      have me := same_upd (o := .tup [.str "InvalidRatio", .str (Tx m61)]) hTe
      have mf := same_upd (o := .tup [.str "InvalidRatio", .str (Str.ofString "1/" ++ Tx m61)]) hTf
      have mg' := same_upd (o := .lst [.ref Tb, .ref Td, .ref Te, .ref Tf]) hLg
      have rf := mf.trans mg'
      have re := me.trans rf
      have rd := md.trans re
      have rc := mc.trans rd
      have rb := mb.trans rc
      have ra := ma.trans rb
      have eq : decide (lastD.shown = lastD.shown) = true := decide_eq_true rfl
      have dF : ∀ H' : Hp, Dp K H' (.str (Str.ofString "1/" ++ Tx m61)) (.str (Tx l61)) := fun H' => by
        rw [e61m]
        exact .str _
      refine ⟨.ref L, .ref Lg, lastD, lastD, rfl, Dp.same ra _ _ hL, .lst (SqL.of upd_same) (.cons (.tup (SqT.of (rc _ _ upd_same)) (.cons (.str _) (.cons (.tup (SqT.of (rb _ _ upd_same)) (.cons (.int _) (.cons (.int _) .nil))) .nil)))
        (.cons (.tup (SqT.of (re _ _ upd_same)) (.cons (.str _) (.cons (.tup (SqT.of (rd _ _ upd_same)) (.cons (.int _) (.cons (.int _) .nil))) .nil))) (.cons (.tup (SqT.of (rf _ _ upd_same)) (.cons (.str _) (.cons (.str _) .nil))) (.cons (.tup (SqT.of (mg' _ _ upd_same)) (.cons (.str _) (.cons (dF _) .nil))) .nil)))), last_sm, last_sm, ?_⟩
      rw [eq]
      exact k _
end
end Lw

set_option maxRecDepth 100000
set_option maxHeartbeats 0
namespace Lw
open PySem PySem.Spec PyProof.Rows L2 VG
abbrev R : PySem.W.OpenRow := PySem.W.OpenLaw.row PySem.Challenge.rw_missingmiles_k04_texts_of_ratios
def glb (x : Str) (st : Stmt) (dfl : List He.Dv) : He.DefD := ⟨(x, none), x, x, defArgs st, defBody st, defScope st, dfl, []⟩
def mth (C m : Str) (st : Stmt) : He.DefD := ⟨(C, some m), m, C ++ "." ++ m, defArgs st, defBody st, defScope st, [], []⟩
/-- a number under a name of the top -/
def gintB (K : PySem.W.Frag) (x : Str) (n : Int) : Bool := match PySem.W.nsIn K mainGlobals x with
  | some (some (.int m _)) => decide (m = n)
  | _ => false
theorem gintB_ok {K : PySem.W.Frag} {h : Heap} {mg : Str → Option Value} {x : Str} {n : Int} (X : K.In h) (G : h.Ns mainGlobals mg) (e : gintB K x n = true) : ∃ u, mg x = some u ∧ RelV (.int n) u := by
  unfold gintB at e
  split at e
  · rename_i m t q
    have z := of_decide_eq_true e
    subst z
    exact ⟨_, PySem.W.mg_of X G q, ⟨t, rfl⟩⟩
  · cases e
def clsBody : Stmt → List Stmt
  | .ClassDef (body := b) .. => b
  | _ => []
def sInit : Stmt := (clsBody s_InvalidRatio).getD 0 (.Pass ⟨0, 0, 0, 0⟩)
def fns : List He.DefD := [glb "law" sLaw [],
  glb "_law_source" sSource [],
  glb "_law_draw" sDraw [],
  glb "_law_of" sOf [],
  glb "_law_same" sSame [],
  glb "_law_fields" s__law_fields [],
  glb "_law_ask" s__law_ask [],
  glb "_law_low" s__law_low [],
  glb "_law_wide" s__law_wide [],
  glb "_law_pair" s__law_pair [],
  glb "_law_text" s__law_text [],
  glb "_law_figures" s__law_figures [],
  glb "_law_ratio_in" s__law_ratio_in [],
  glb "copied" s_copied [],
  glb "_is_whole" s__is_whole [],
  glb "is_ratio" s_is_ratio [],
  glb "ratio_of" s_ratio_of [],
  glb "_figures" s__figures [],
  glb "ratio_text" s_ratio_text [],
  glb "_are_figures" s__are_figures [],
  glb "read_ratio" s_read_ratio []]
def fas : List He.Fa := [.glo "law", .glo "_law_source", .glo "_law_draw", .glo "_law_of", .glo "_law_same", .glo "_law_fields", .glo "_law_ask", .glo "_law_low", .glo "_law_wide", .glo "_law_pair", .glo "_law_text", .glo "_law_figures", .glo "_law_ratio_in", .glo "copied", .glo "_is_whole", .glo "is_ratio", .glo "ratio_of", .glo "_figures", .glo "ratio_text", .glo "_are_figures", .glo "read_ratio", .glo "InvalidRatio", .glo "MilesError", .glo "Missing", .glo "NothingLeft", .free "int", .free "len", .free "list", .free "repr", .free "isinstance", .free "bool", .free "range", .free "tuple", .free "abs", .free "super", .free "str"]
def more (K : PySem.W.Frag) : Bool := errB K "InvalidRatio" && (iniB K "InvalidRatio" R.prog.main.file && (decide (PySem.W.nsIn K mainGlobals "gcd" = some (some (.builtin "math.gcd"))) &&
  (decide (PySem.W.exmAny K (.ref (He.ga K "InvalidRatio")) [.ref (He.ga K "MilesError"), .ref (He.ga K "Missing"), .ref (He.ga K "NothingLeft")] = some true) && gintB K "MOST_FIGURES" 60)))
def ins : List IniD := [⟨"InvalidRatio", sInit⟩]
def tfs : List He.Defn := [("law", none)]
abbrev hk : PySem.W.Hook := hookI 4 fas fns tfs more ins
def ob (s : PySem.W.SharedT) : AlI := obsI 4 fas fns tfs more ins (HandSHeadRun.getT s)
theorem ob_eq (s : PySem.W.SharedT) : ob s = hk.obs s.abs := obsI_eq (HandSHeadRun.getT_eq s)
def loose : List Str := (["gcd", "_law_source", "_law_draw", "_law_of", "_law_same", "_law_fields", "_law_ask", "_law_low", "_law_wide", "_law_pair", "_law_text", "_law_figures", "_law_ratio_in", "copied", "_is_whole", "is_ratio", "ratio_of", "_figures", "ratio_text", "_are_figures", "read_ratio", "InvalidRatio", "MilesError", "Missing", "NothingLeft", "MOST_FIGURES"] : List Str)
theorem run (w : World) : HandSHeadRun.RunEqI R (PySem.W.view R.prog [0, 30]) hk ob 3000 loose w := by
  unfold HandSHeadRun.RunEqI
  kernel_rfl
end Lw

set_option maxRecDepth 100000
set_option maxHeartbeats 0
namespace Lw
open PySem PySem.Spec PyProof.Rows L2 VG
theorem vals_rev : ∀ {xs : List V} {us : List Value}, Vals xs us → Vals xs.reverse us.reverse
  | _, _, .nil => .nil
  | _, _, .cons r t => by
    rw [List.reverse_cons, List.reverse_cons]
    exact (vals_rev t).append (.cons r .nil)
theorem scInit : IniScope ["self", "given"] (defScope sInit) := ⟨rfl, rfl, rfl, by decide +kernel, by decide +kernel, by decide +kernel, by decide +kernel, rfl, rfl⟩
abbrev L : PySem.W.OpenLaw := PySem.Challenge.rw_missingmiles_k04_texts_of_ratios
theorem facts {w : World} {K : PySem.W.Frag} {h : Heap} {mg : Str → Option Value} {f : Addr} (X : K.In h) (G : h.Ns mainGlobals mg) (hfa : mg ("law" : Str) = some (.ref f)) (c : SaysI fas fns tfs more ins w h K) : LawG L w K CX0 11 63 "_law_script" mg f h := by
  have d := c.x.t.d
  have e := hfa.symm.trans (He.glo_ok X G (d.fact 0 (f := .glo "law") rfl))
  cases e
  have gl : ∀ {x : Str} (i : Nat), fas[i]? = some (.glo x) → mg x = some (.ref (He.ga K x)) := fun i hi => He.glo_ok X G (d.fact i hi)
  have fr : ∀ {x : Str} (i : Nat), fas[i]? = some (.free x) → mg x = none := fun i hi => He.free_ok X G (d.fact i hi)
  obtain ⟨fd0, F0⟩ := d.def_ 0 (d := glb "law" sLaw []) rfl
  obtain ⟨fd1, F1⟩ := d.def_ 1 (d := glb "_law_source" sSource []) rfl
  obtain ⟨fd2, F2⟩ := d.def_ 2 (d := glb "_law_draw" sDraw []) rfl
  obtain ⟨fd3, F3⟩ := d.def_ 3 (d := glb "_law_of" sOf []) rfl
  obtain ⟨fd4, F4⟩ := d.def_ 4 (d := glb "_law_same" sSame []) rfl
  obtain ⟨fd5, F5⟩ := d.def_ 5 (d := glb "_law_fields" s__law_fields []) rfl
  obtain ⟨fd6, F6⟩ := d.def_ 6 (d := glb "_law_ask" s__law_ask []) rfl
  obtain ⟨fd7, F7⟩ := d.def_ 7 (d := glb "_law_low" s__law_low []) rfl
  obtain ⟨fd8, F8⟩ := d.def_ 8 (d := glb "_law_wide" s__law_wide []) rfl
  obtain ⟨fd9, F9⟩ := d.def_ 9 (d := glb "_law_pair" s__law_pair []) rfl
  obtain ⟨fd10, F10⟩ := d.def_ 10 (d := glb "_law_text" s__law_text []) rfl
  obtain ⟨fd11, F11⟩ := d.def_ 11 (d := glb "_law_figures" s__law_figures []) rfl
  obtain ⟨fd12, F12⟩ := d.def_ 12 (d := glb "_law_ratio_in" s__law_ratio_in []) rfl
  obtain ⟨fd13, F13⟩ := d.def_ 13 (d := glb "copied" s_copied []) rfl
  obtain ⟨fd14, F14⟩ := d.def_ 14 (d := glb "_is_whole" s__is_whole []) rfl
  obtain ⟨fd15, F15⟩ := d.def_ 15 (d := glb "is_ratio" s_is_ratio []) rfl
  obtain ⟨fd16, F16⟩ := d.def_ 16 (d := glb "ratio_of" s_ratio_of []) rfl
  obtain ⟨fd17, F17⟩ := d.def_ 17 (d := glb "_figures" s__figures []) rfl
  obtain ⟨fd18, F18⟩ := d.def_ 18 (d := glb "ratio_text" s_ratio_text []) rfl
  obtain ⟨fd19, F19⟩ := d.def_ 19 (d := glb "_are_figures" s__are_figures []) rfl
  obtain ⟨fd20, F20⟩ := d.def_ 20 (d := glb "read_ratio" s_read_ratio []) rfl
  have b0 := FunD.bindsA (ps := ["_law_script"]) F0 fun _ _ _ _ _ _ us hl => match us, hl with | [_], _ => rfl
  have b1 := FunD.bindsN (ps := ["_law_script"]) F1 fun _ _ _ _ _ _ us hl => match us, hl with | [_], _ => rfl
  have b2 := FunD.bindsN (ps := ["_law_src", "_law_many"]) F2 fun _ _ _ _ _ _ us hl => match us, hl with | [_, _], _ => rfl
  have b3 := FunD.bindsN (ps := ["_law_src", "_law_some"]) F3 fun _ _ _ _ _ _ us hl => match us, hl with | [_, _], _ => rfl
  have b4 := FunD.bindsN (ps := ["_law_found", "_law_due"]) F4 fun _ _ _ _ _ _ us hl => match us, hl with | [_, _], _ => rfl
  have b5 := FunD.bindsN (ps := ["_law_e"]) F5 fun _ _ _ _ _ _ us hl => match us, hl with | [_], _ => rfl
  have b6 := FunD.bindsN (ps := ["_law_f"]) F6 fun _ _ _ _ _ _ us hl => match us, hl with | [_], _ => rfl
  have b7 := FunD.bindsN (ps := ["_law_top", "_law_bottom"]) F7 fun _ _ _ _ _ _ us hl => match us, hl with | [_, _], _ => rfl
  have b8 := FunD.bindsN (ps := ["_law_src"]) F8 fun _ _ _ _ _ _ us hl => match us, hl with | [_], _ => rfl
  have b9 := FunD.bindsN (ps := ["_law_value_z"]) F9 fun _ _ _ _ _ _ us hl => match us, hl with | [_], _ => rfl
  have b10 := FunD.bindsN (ps := ["_law_value_z"]) F10 fun _ _ _ _ _ _ us hl => match us, hl with | [_], _ => rfl
  have b11 := FunD.bindsN (ps := ["_law_text_z"]) F11 fun _ _ _ _ _ _ us hl => match us, hl with | [_], _ => rfl
  have b12 := FunD.bindsN (ps := ["_law_text_z"]) F12 fun _ _ _ _ _ _ us hl => match us, hl with | [_], _ => rfl
  have b13 := FunD.bindsN (ps := ["value"]) F13 fun _ _ _ _ _ _ us hl => match us, hl with | [_], _ => rfl
  have b14 := FunD.bindsN (ps := ["value"]) F14 fun _ _ _ _ _ _ us hl => match us, hl with | [_], _ => rfl
  have b15 := FunD.bindsN (ps := ["value"]) F15 fun _ _ _ _ _ _ us hl => match us, hl with | [_], _ => rfl
  have b16 := FunD.bindsN (ps := ["value"]) F16 fun _ _ _ _ _ _ us hl => match us, hl with | [_], _ => rfl
  have b17 := FunD.bindsN (ps := ["number"]) F17 fun _ _ _ _ _ _ us hl => match us, hl with | [_], _ => rfl
  have b18 := FunD.bindsN (ps := ["value"]) F18 fun _ _ _ _ _ _ us hl => match us, hl with | [_], _ => rfl
  have b19 := FunD.bindsN (ps := ["text"]) F19 fun _ _ _ _ _ _ us hl => match us, hl with | [_], _ => rfl
  have b20 := FunD.bindsN (ps := ["text"]) F20 fun _ _ _ _ _ _ us hl => match us, hl with | [_], _ => rfl
  obtain ⟨m1, m⟩ := He.ba c.x.more
  obtain ⟨m2, m⟩ := He.ba m
  obtain ⟨m3, m⟩ := He.ba m
  obtain ⟨m4, m5⟩ := He.ba m
  have gg : mg "gcd" = some (.builtin "math.gcd") := PySem.W.mg_of X G (of_decide_eq_true m3)
  have gm := gintB_ok X G m5
  have tN : Nm mg := ⟨(fr 25 rfl), (fr 26 rfl), (fr 27 rfl), (fr 28 rfl)⟩
  have tW : NmW mg := ⟨(fr 29 rfl), (fr 25 rfl), (fr 30 rfl)⟩
  have tR : NmR mg := ⟨tW, (fr 32 rfl), (fr 26 rfl), gg⟩
  have tC : NmC mg := ⟨(fr 29 rfl), (fr 27 rfl), (fr 32 rfl)⟩
  have tF : NmF mg := ⟨(fr 26 rfl), gm⟩
  have f0 : Fun K "law" "law" sLaw (He.ga K "law") fd0 := fun_of F0
  obtain ⟨oc, od, kV, doc, pm, an, cdv, ct, osl, efd, lk, hcd⟩ := f0.ex
  obtain ⟨c0, hc0⟩ := He.codeIn_ref hcd
  have hcode : fd0.code = .ref c0 := by
    rw [efd]
    exact hc0
  have ec : He.codeOf K ("law", none) = c0 := He.codeOf_eq lk hcode
  have inTf : (("law", none) : He.Defn) ∈ [(("law", none) : He.Defn)] := List.mem_singleton.mpr rfl
  have one : ∀ p ∈ [He.cT K ("law", none)], p = He.cT K ("law", none) := fun p hp => List.mem_singleton.mp hp
  refine ⟨fd0, [He.cT K ("law", none)], spLaw K (He.cT K ("law", none)).2, (fun p hp => by rw [one p hp]; exact c.x.empty _ inTf), (fun p hp => by rw [one p hp]; exact c.x.out _ inTf), (fun p hp => by rw [one p hp]; exact PySem.W.codeHd_of_K X (c.x.hd _ inTf)),
    fun s v => b0 s [v] rfl, fun H a ns hl _ hT hS => ⟨a, ns, rfl, hS, hl, hT _ (List.mem_singleton.mpr rfl), fun _ => rfl⟩, fun base _ _ TB => ?_⟩
  have tb := TB _ (List.mem_singleton.mpr rfl)
  have hc : (He.cT K ("law", none)).1 = c0 := ec
  rw [hc] at tb
  have GC := ok_copied (P := L.prog) (w := w) (base := base) (fun_of F13) tC (gl 13 rfl) b13 2
  have XE : ErrC L.prog w K mg base "InvalidRatio" ["given"] (He.ga K "InvalidRatio") 4 2 := errC_of (st := sInit) (ps := ["self", "given"]) (c.ini _ (List.mem_singleton.mpr rfl)) (iniB_ok m2) (errB_ok m1) (gl 21 rfl) (fun env => ⟨_, rfl⟩) rfl scInit rfl rfl GC rfl (gl 13 rfl) F13.kp b13
    (by decide) (by decide) (by decide) rfl (.fld rfl rfl (.code rfl)) (fr 34 rfl) rfl fun _ _ _ _ _ _ _ _ us hl => match us, hl with | [_, _], _ => rfl
  have GW : Fun K "_is_whole" "_is_whole" s__is_whole (He.ga K "_is_whole") fd14 := fun_of F14
  have A : AskT L.prog w K mg base c0 (He.cT K ("law", none)).2 [.ref (He.ga K "MilesError"), .ref (He.ga K "Missing"), .ref (He.ga K "NothingLeft")] :=
    ⟨⟨_, _, fun_of F6, (gl 6 rfl), b6⟩, ⟨_, _, ok_fields (fun_of F5), (gl 5 rfl), F5.kp, b5⟩, ⟨_, _, _, rfl, (gl 22 rfl), (gl 23 rfl), (gl 24 rfl)⟩, tb⟩
  have GR := ok_rat2 (ok_ratioOf (P := L.prog) (w := w) (base := base) (fun_of F16) GW (fun_of F15) tR (gl 14 rfl) b14 (gl 15 rfl) b15 XE (by decide))
  have GLw := ok_low (P := L.prog) (w := w) (base := base) (fun_of F7) (fr 25 rfl) (fr 33 rfl)
  have GD := ok_draw (P := L.prog) (w := w) (K := K) (base := base) (fun_of F2) tN
  have GFi := ok_fig (P := L.prog) (w := w) (K := K) (base := base) (fun_of F17) (fr 35 rfl)
  have GTx := ok_text (fun_of F18) (fr 33 rfl) GR (gl 16 rfl) F16.kp b16 GFi (gl 17 rfl) F17.kp b17 (by decide)
  have GAf := ok_figs (P := L.prog) (w := w) (K := K) (base := base) (fun_of F19) tF
  have GRd := ok_read (fG := 0) (fun_of F20) tR (fr 35 rfl) (fr 25 rfl) GW (gl 14 rfl) b14 (fun_of F15) (gl 15 rfl) b15 GTx (gl 18 rfl) F18.kp b18 GAf (gl 19 rfl) F19.kp b19 XE (by decide) (by decide) (fun _ _ => rfl)
  have GPl := ok_pairL (P := L.prog) (w := w) (K := K) (base := base) (fun_of F9) tW
  have GTl := ok_textL (fun_of F10) (fr 29 rfl) (fr 35 rfl) GPl (gl 9 rfl) F9.kp b9
  have GFl := ok_figL (P := L.prog) (w := w) (K := K) (mg := mg) (base := base) (fun_of F11)
  have GIn := ok_ratioIn (fun_of F12) (fr 26 rfl) (fr 25 rfl) GFl (gl 11 rfl) F11.kp b11 GLw (gl 7 rfl) F7.kp b7
  have kT := kbindsN (ps := ["value"]) F18 0 ["value"] (fun _ ws => ws) (fun _ r => r) fun _ _ _ _ _ _ us ws h1 h2 => match us, ws, h1, h2 with | [], [_], _, _ => rfl
  have kR := kbindsN (ps := ["text"]) F20 0 ["text"] (fun _ ws => ws) (fun _ r => r) fun _ _ _ _ _ _ us ws h1 h2 => match us, ws, h1, h2 with | [], [_], _, _ => rfl
  refine ok_law (C := He.ga K "InvalidRatio") (c := c0) (cs := [.ref (He.ga K "MilesError"), .ref (He.ga K "Missing"), .ref (He.ga K "NothingLeft")]) f0 hcode ?_ (fr 35 rfl)
  exact {
    src := ⟨_, _, ok_source (fun_of F1) tN, (gl 1 rfl), F1.kp, b1⟩
    draw := ⟨_, _, GD, (gl 2 rfl), F2.kp, b2⟩
    of_ := ⟨_, _, ok_of (fun_of F3) tN (fun_of F2) (gl 2 rfl) b2, (gl 3 rfl), F3.kp, b3⟩
    same := ⟨_, _, ok_same (fun_of F4) tN, (gl 4 rfl), F4.kp, b4⟩
    wide := ⟨_, _, ok_wide (fun_of F8) GD (gl 2 rfl) F2.kp b2 GLw (gl 7 rfl) F7.kp b7, (gl 8 rfl), F8.kp, b8⟩
    ltext := ⟨_, _, GTl, (gl 10 rfl), F10.kp, b10⟩
    rin := ⟨_, _, GIn, (gl 12 rfl), F12.kp, b12⟩
    text := ⟨_, _, ⟨GTx, (gl 18 rfl), F18.kp, b18⟩, kT⟩
    read := ⟨_, _, ⟨GRd, (gl 20 rfl), F20.kp, b20⟩, kR⟩
    ask := A
    own := (errB_ok m1).own
    exm := of_decide_eq_true m4
    rng := (fr 31 rfl)
    len := (fr 26 rfl)
    int := (fr 25 rfl) }
end Lw

set_option maxRecDepth 100000
set_option maxHeartbeats 0
open PySem PySem.W PySem.Calls PyProof.Rows
theorem PySem.Challenge.cw_missingmiles_k04_texts_of_ratios_holds : PySem.Challenge.rw_missingmiles_k04_texts_of_ratios.Holds := by
  w_on; o_law
  refine HandSHeadRun.head_imp (r := OpenLaw.row PySem.Challenge.rw_missingmiles_k04_texts_of_ratios) (q := view (OpenLaw.row PySem.Challenge.rw_missingmiles_k04_texts_of_ratios).prog [0, 30]) (H := Lw.hk) (ob := Lw.ob) (M := 3000) (loose := Lw.loose)
    (d := HandSHeadRun.topDef (OpenLaw.row PySem.Challenge.rw_missingmiles_k04_texts_of_ratios).prog 30) (kwd := []) Lw.ob_eq Lw.run
    (by kernel_rfl) (by kernel_rfl) (by kernel_rfl) (by rfl) (by first | assumption | decide +kernel) (by decide +kernel) ⟨rfl, rfl, rfl, rfl, rfl, by decide +kernel⟩ ?hw ?hc
  case hw => w_witness2
  case hc =>
    refine VG.walkGE (l := PySem.Challenge.rw_missingmiles_k04_texts_of_ratios) (n := 63) (k := 11) (x := "_law_script") (CX := fun _ => L2.CX0) rfl (by decide) (by kernel_rfl) ⟨rfl, by decide, by decide⟩ ?F (fun _ _ _ _ _ z => z)
    intro w mg fa h Y G hmg0
    obtain ⟨K, KX, c⟩ := Y
    have e : (HandSHeadRun.topDef (OpenLaw.row PySem.Challenge.rw_missingmiles_k04_texts_of_ratios).prog 30).name = ("law" : PySem.Str) := by kernel_rfl
    rw [e] at hmg0
    exact ⟨K, KX, Lw.facts KX G hmg0 c⟩

