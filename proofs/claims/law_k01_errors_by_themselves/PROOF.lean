import PyProof.Rows.All
import Wide.All
import OpenK.AllK
import Wide.FinOn
import PyProof.ReprBulk
import HandS.Base
import HandS.Call
import HandS.List
import HandS.Ends
import HandS.Words
import HandS.Lambda
import HandS.EndBits
import HandS.EndTab
import HandS.Defaults
import HandS.Deep
import HandS.TupAny
import HandS.Exc
import HandS.ExcInit
import HandS.WordsExc
import HandS.TryOnly
import KE.KExcSuper
import KE.KExcMake
import HandS.ClsMeth
import KE.KTypeName
import KE.KTryMore
import HandS.HotCalls
import HandS.ExcField
import HandS.ForMost
import HandS.Wide
import HandS.Codes
import HandS.IsInst
import HandS.StrMore
import HandS.Walk
import PySem.Challenge.RW_missingmiles_k01_errors_by_themselves
import HandS.HeadHook4
import KE.KExcIs
import HandS.MakeKwOnly
import HandS.Star
import HandS.SlotsOwn
import PyProof.InstNe
import OpenK.KOps
import HandS.Comp
import HandS.FStr
import HandS.Zip
import KE.GoesZip
import KE.GoesMore
import KE.GoesEnum
import HandS.Property
import PyProof.MeetsIn
import HandS.Head0
import HandS.Head1
import HandS.Head2
import HandS.Head3
set_option Elab.async false
set_option maxRecDepth 100000
/-! Data that is small enough to be shown; calls made where no repr is under way; the law's end for such calls. -/
namespace VG
open PySem PySem.Spec PyProof.Rows L2

/-! ### small data -/
mutual
def sm : PyData → Bool
  | .none => true
  | .bool _ => true
  | .int i => decide (i.natAbs < 10 ^ 90)
  | .str x => PyData.strOk x
  | .list xs => smAll xs
  | .tuple xs => smAll xs
  | .dict _ => false
def smAll : List PyData → Bool
  | [] => true
  | x :: xs => sm x && smAll xs
end
theorem pow90 : (10 : Nat) ^ 90 < 2 ^ 1900 := by decide +kernel
theorem log_of {n : Nat} (h : n < 10 ^ 90) : n.log2 < 1920 := by
  by_cases z : n = 0
  · subst z
    decide
  · have q : n.log2 < 1900 := (Nat.log2_lt z).mpr (Nat.lt_trans h pow90)
    exact Nat.lt_of_lt_of_le q (by decide)
theorem signs_small {x : Str} (h : PyData.strOk x = true) : ∀ c ∈ x.cps.toList, c < 16 ^ 8 := fun c hc => by
  have q := Array.all_eq_true_iff_forall_mem.mp h c (Array.mem_toList_iff.mp hc)
  have q2 : c < 1114112 := of_decide_eq_true q
  exact Nat.lt_trans q2 (by decide)
theorem int_len {i : Int} (h : i.natAbs < 10 ^ 90) : (PyData.int i).shown.length ≤ 100 := by
  rw [PyData.shown_int, _root_.PySem.ofString_length]
  exact Nat.le_trans (int_text_length_le10 (k := 90) (by decide) h) (by decide)
mutual
theorem sm_all : ∀ d : PyData, sm d = true → (d.showable = true ∧ d.hasDict = false) ∧ d.leavesShort 100 = true ∧ d.canLay0 = true
  | .none, _ => ⟨⟨rfl, rfl⟩, rfl, rfl⟩
  | .bool _, _ => ⟨⟨rfl, rfl⟩, rfl, rfl⟩
  | .int i, h => by
    have q : i.natAbs < 10 ^ 90 := of_decide_eq_true (by simpa only [sm] using h)
    exact ⟨⟨by simp only [PyData.showable]; exact decide_eq_true (log_of q), by simp only [PyData.hasDict]⟩, by simp only [PyData.leavesShort]; exact decide_eq_true (int_len q), by simp only [PyData.canLay0]⟩
  | .str x, h => by
    have q : PyData.strOk x = true := by simpa only [sm] using h
    refine ⟨⟨by simp only [PyData.showable], by simp only [PyData.hasDict]⟩, ?_, by simp only [PyData.canLay0]; exact q⟩
    simp only [PyData.leavesShort]
    exact List.all_eq_true.mpr fun c hc => decide_eq_true (signs_small q c hc)
  | .list xs, h => by
    obtain ⟨⟨a, b⟩, c, e⟩ := sm_alls xs (by simpa only [sm] using h)
    exact ⟨⟨by simp only [PyData.showable]; exact a, by simp only [PyData.hasDict]; exact b⟩, by simp only [PyData.leavesShort]; exact c, by simp only [PyData.canLay0]; exact e⟩
  | .tuple xs, h => by
    obtain ⟨⟨a, b⟩, c, e⟩ := sm_alls xs (by simpa only [sm] using h)
    exact ⟨⟨by simp only [PyData.showable]; exact a, by simp only [PyData.hasDict]; exact b⟩, by simp only [PyData.leavesShort]; exact c, by simp only [PyData.canLay0]; exact e⟩
  | .dict _, h => by simp [sm] at h
theorem sm_alls : ∀ xs : List PyData, smAll xs = true → (PyData.showableAll xs = true ∧ PyData.hasDictAll xs = false) ∧ PyData.leavesShortAll 100 xs = true ∧ PyData.canLayAll0 xs = true
  | [], _ => ⟨⟨rfl, rfl⟩, rfl, rfl⟩
  | x :: xs, h => by
    have h' : sm x = true ∧ smAll xs = true := by simpa only [smAll, Bool.and_eq_true] using h
    obtain ⟨⟨a, b⟩, c, e⟩ := sm_all x h'.1
    obtain ⟨⟨a', b'⟩, c', e'⟩ := sm_alls xs h'.2
    simp only [PyData.showableAll, PyData.hasDictAll, PyData.leavesShortAll, PyData.canLayAll0, a, b, c, e, a', b', c', e', Bool.and_self, Bool.or_self, and_self]
end
/-- d may be shown, and compared: its leaves are small, it is neither deep nor long -/
structure Sm (d : PyData) : Prop where
  sm : sm d = true
  dp : d.depth ≤ 40
  bk : d.bulk ≤ 100000
theorem Sm.fits {d : PyData} (h : Sm d) : d.shown.length ≤ sizeLine := by
  have q := PyData.shown_le_bulk 100 (by decide) d (sm_all d h.sm).2.1
  have b := h.bk
  have e : (100 + 2) * d.bulk ≤ 102 * 100000 := Nat.mul_le_mul (by decide) b
  rw [sizeLine_eq]
  omega
theorem Sm.shaped {d : PyData} (h : Sm d) : SeqAt.shaped d = true := by
  have e := (sm_all d h.sm).2.2
  have f : d.depth ≤ 64 := Nat.le_trans h.dp (by decide)
  show (d.canLay0 && decide (d.depth ≤ 64)) = true
  rw [e, decide_eq_true f]
  rfl

/-! ### repr of data, where no repr is under way -/
def rRepr (K : PySem.W.Frag) : List V → Hp → VK → Prop := fun xs H Q => ∃ x d, xs = [x] ∧ Dp K H x d ∧ Sm d ∧ Q (.str d.shown) H
section
variable {X : Cx}
theorem call_repr (hG : X.A.guards = some []) (hu : X.A.units + 64 < cLine) : CallR X (.builtin "repr") (rRepr X.K) := by
  intro pins s σ H xs us Q I r h
  obtain ⟨x, d, rfl, hd, hS, q⟩ := h
  obtain ⟨u, rfl, r1⟩ := vals1 r
  have fit := hS.fits
  obtain ⟨⟨hs, hn⟩, _, _⟩ := sm_all d hS.sm
  obtain ⟨as, rd⟩ := Dp.reads I d x u hd r1
  cases hd with
  | non =>
    cases r1
    refine PySem.P.repr_of_none ⟨.str _, H, I.tok _, ⟨_, rfl⟩, ?_⟩
    rw [PyData.shown_none] at q
    exact q
  | bl b =>
    cases r1
    refine PySem.P.repr_of_bool ⟨.str _, H, I.tok _, ⟨_, rfl⟩, ?_⟩
    rw [PyData.shown_bool] at q
    cases b <;> exact q
  | int i =>
    obtain ⟨t, rfl⟩ := r1
    have z : i.natAbs < 10 ^ 90 := of_decide_eq_true (by simpa only [VG.sm] using hS.sm)
    exact PySem.P.repr_of_int (log_of z) ⟨.str _, H, I.tok _, ⟨_, rfl⟩, by rw [PyData.shown_int] at q; exact q⟩
  | str y =>
    obtain ⟨t, rfl⟩ := r1
    rw [PyData.shown_str] at q fit
    exact PySem.P.repr_of_str ⟨.str _, H, I.tok _, ⟨_, rfl⟩, q⟩ fit
  | lst hl ha =>
    cases r1
    exact repr_of_reads' rd hs (PyData.noDict_hsm hn) hG (by have := hS.dp; omega) (fun _ _ e => e) (fun h' u tk hk => ⟨.str _, H, I.kept hk, ⟨_, rfl⟩, q⟩) fit
  | tup hl ha =>
    cases r1
    exact repr_of_reads' rd hs (PyData.noDict_hsm hn) hG (by have := hS.dp; omega) (fun _ _ e => e) (fun h' u tk hk => ⟨.str _, H, I.kept hk, ⟨_, rfl⟩, q⟩) fit
end

/-! ### defs that are called where no repr is under way -/
structure FnG (P : Program) (w : World) (K : PySem.W.Frag) (mg : Str → Option Value) (base : Heap) (CX : CXT) (k : Nat) (f : Addr) (fd : FuncData) (ps : List Str) (sp : Sp) : Prop where
  many : ∀ vs H Q E, sp vs H Q E → vs.length = ps.length
  runs : ∀ (A : Around) (outer : List Env) (s : Shared) (H : Hp) (args : Args) (us : List Value) (vs : List V) (Q : VK) (E : XK), A.guards = some [] → Room k A → Env0 P w K mg base A outer s H →
    BindsTo s fd args (ps.zip us) → Vals vs us → sp vs H Q E → codeAny (model P w) A (.call (.ref f) args) (CR CX outer P w H s Q E) s
section
variable {P : Program} {w : World} {K : PySem.W.Frag} {mg : Str → Option Value} {base : Heap}
theorem okG {x qual : Str} {st : Stmt} {f : Addr} {fd : FuncData} {N ps : List Str} {k : Nat} {sp : Sp} (F : Fun K x qual st f fd) (S : FnScope N ps (defScope st)) (many : ∀ vs H Q E, sp vs H Q E → vs.length = ps.length)
    (body : ∀ (cdv : Value) (A : Around) (outer : List Env) (s : Shared) (H : Hp) (vs : List V) (Q : VK) (E : XK), A.guards = some [] → Room k (A.deeper (envOfC qual (defScope st) s.heap.objs.size f cdv)) → sp vs H Q E →
      ∃ t, PSs (cxOf CX0 P w K mg base N qual (defScope st) f cdv A outer s H E).nox (defBody st) t ∧
        t { nx := fun _ H' => Q .non H', rt := Q } (L2.start N vs) H) : FnG P w K mg base CX0 (k + 1) f fd ps sp := by
  obtain ⟨oc, od, kV, doc, pm, an, cdv, ct, osl, rfl, lk, hcd⟩ := F.ex
  refine ⟨many, fun A outer s H args us vs Q E hG hr e0 hb r q => ?_⟩
  refine LamX.run_ofS lk hcd S hr e0 hb r (many _ _ _ _ q) fun hr' => ?_
  obtain ⟨t, h1, h2⟩ := body cdv A outer s H vs Q E hG hr' q
  exact ⟨t, h1.nox, h2⟩
end
section
variable {X : Cx} {CX : CXT} {k : Nat} {f : Addr} {fd : FuncData} {ps : List Str} {sp : Sp} {dvs : List V} {ds : List Value} {E : XK} {x : Str} {p pos : Pos} {e : Expr} {es : List Expr} {t : TA}
theorem pe_callG (F : FnG X.prog X.w X.K X.mg X.base CX k f fd ps sp) (hG : X.A.guards = some []) (hr : Room k X.A) (hg : Gl X x) (hm : X.mg x = some (.ref f)) (hk : PySem.W.keepIn X.K (.ref f) = true) (hb : Binds X.K fd ps ds) (hd : Vals dvs ds)
    (hx : Passes CX X E) (ha : PA X (e :: es) t) (n1 : (x == ("__debug__" : Str)) = false := by decide) (n2 : starEach (e :: es) X.env = (false, eval e X.env) :: starEach es X.env := by rfl)
    (n3 : (backTo pos (starEach es X.env)).any (·.1) = false := by rfl) : PE X (.Call (.Name x p) (e :: es) [] pos) (tCall sp dvs E t) := by
  refine ⟨fun pins s σ H Q I q0 => wpAny_Call_Name_kw (ld_glob I hg hm (PySem.W.callWith_K (h₀ := X.base) I.ok.mod.kin hk (thn (ha.run pos pins s σ H _ I q0) fun us s1 ⟨vs, H1, I1, r, q⟩ => ⟨I1.kIn, ?_⟩) n2 n3) n1)⟩
  have r2 : Vals (vs ++ dvs) (us ++ ds) := r.append hd
  have l2 : (us ++ ds).length = ps.length := r2.length.symm.trans (F.many _ _ _ _ q)
  refine wpAny_call (codeAny_mono (F.runs X.A X.stack s1 H1 ⟨us, []⟩ (us ++ ds) (vs ++ dvs) Q E hG hr I1.env0 (hb s1 us I1.kIn l2) r2 q) fun res s' z => ?_)
  match res, z with
  | .error err, z => exact hx pins σ H1 s1 err s' I1 z
  | .ok (.ret u), z => exact I1.after z
  | .ok .next, z => exact z.elim
  | .ok .brk, z => exact z.elim
  | .ok .cont, z => exact z.elim
end
end VG

set_option maxRecDepth 100000
/-! The law's end where the law's promise asks that no repr is under way. -/
namespace VG
open PySem PySem.Spec PyProof.Rows L2 LamX

def tabObj : Obj := { cls := .none, data := .fields #[] }
def scriptObj (vs : List Value) : Obj := { cls := .type "list", data := .seq vs.toArray }
/-- what is tracked where the law is called: the tables, and the script where sc says so -/
def laidAt (cs : List (Addr × Addr)) (a : Addr) (vs : List Value) (ns : List Int) (sc : Bool) : Hp := fun b =>
  if b ∈ cs.map (·.2) then some (.tbl #[]) else if sc = true ∧ b = a then some (.frz (scriptObj vs) (.lst (ns.map V.int))) else none
theorem laid_tab {cs : List (Addr × Addr)} {a : Addr} {vs : List Value} {ns : List Int} {sc : Bool} {b : Addr} (h : b ∈ cs.map (·.2)) : laidAt cs a vs ns sc b = some (.tbl #[]) := if_pos h
theorem laid_script {cs : List (Addr × Addr)} {a : Addr} {vs : List Value} {ns : List Int} (h : a ∉ cs.map (·.2)) : laidAt cs a vs ns true a = some (.frz (scriptObj vs) (.lst (ns.map V.int))) := by
  unfold laidAt
  rw [if_neg h, if_pos ⟨rfl, rfl⟩]
theorem laid_cases {cs : List (Addr × Addr)} {a : Addr} {vs : List Value} {ns : List Int} {sc : Bool} {b : Addr} {u : HO} (h : laidAt cs a vs ns sc b = some u) :
    (b ∈ cs.map (·.2) ∧ u = .tbl #[]) ∨ (sc = true ∧ b = a ∧ u = .frz (scriptObj vs) (.lst (ns.map V.int))) := by
  unfold laidAt at h
  by_cases h1 : b ∈ cs.map (·.2)
  · rw [if_pos h1] at h
    exact .inl ⟨h1, (Option.some.inj h).symm⟩
  · rw [if_neg h1] at h
    by_cases h2 : sc = true ∧ b = a
    · rw [if_pos h2] at h
      exact .inr ⟨h2.1, h2.2, (Option.some.inj h).symm⟩
    · rw [if_neg h2] at h
      cases h

theorem law_runG {P : Program} {w : World} {K : PySem.W.Frag} {mg mb : Str → Option Value} {CX : CXT} {k : Nat} {fa a : Addr} {cs : List (Addr × Addr)} {fd : FuncData} {x : Str} {sp : Sp} {s₁ : Shared} {vs : List Value} {ns : List Int}
    (KX : K.In s₁.heap) (hns : s₁.heap.Ns mainGlobals mg) (hb : s₁.heap.Ns builtinsNs mb) (hbb : ∀ x : Str, x ≠ "__name__" → mb x = bootBuiltins x) (hlim : s₁.heap.NoLimit)
    (hgen : s₁.gens = #[]) (hT : ∀ p ∈ cs, s₁.heap.get? p.2 = some tabObj) (nT : ∀ p ∈ cs, K.lookup p.2 = none) (C : ∀ p ∈ cs, PySem.W.CodeHd s₁.heap p.1 p.2)
    (hbm : ∃ (bm : Addr) (ob : Obj), mg "__builtins__" = some (.ref bm) ∧ bm ≠ builtinsNs ∧
      s₁.heap.get? bm = some ob ∧ ob.cls = .type "module" ∧ ob.dict = some builtinsNs ∧ ob.data = .plain)
    (ha : s₁.heap.get? a = some (scriptObj vs)) (hi : IntsAre vs ns) (hl : ns.length ≤ sizeLine) (hr : Room k callerA)
    (F : ∀ base : Heap, K.In base → base.Ns mainGlobals mg → (∀ p ∈ cs, TabB base mg p.1 p.2) → FnG P w K mg base CX k fa fd [x] sp)
    (bind1 : ∀ (s : Shared) (u : Value), BindsTo s fd ⟨[u], []⟩ [(x, u)])
    (kept : ∀ H : Hp, (∀ p ∈ cs, H p.2 = some (.tbl #[])) → SqL K H a (ns.map V.int) → sp [.ref a] H (fun v _ => v = .bl true) fun _ _ _ => False)
    (noX : ∀ H e s', CX [] H s₁ (fun _ _ _ => False) e s' → False) :
    codeAny (model P w) callerA (.call (.ref fa) ⟨[.ref a], []⟩)
      (fun r s' => r = .ok (.ret (.bool true)) ∧ OldK s₁.heap s'.heap ∧ s'.os = s₁.os ∧ AllBare s'.gens) s₁ := by
  have rv : Vals (ns.map V.int) vs := vals_ints hi
  have tabOf : ∀ b, b ∈ cs.map (·.2) → ∃ p ∈ cs, p.2 = b := fun b z => List.mem_map.mp z
  have inTab : ∀ p ∈ cs, p.2 ∈ cs.map (·.2) := fun p hp => List.mem_map.mpr ⟨p, hp, rfl⟩
  have atTab : ∀ b, b ∈ cs.map (·.2) → s₁.heap.get? b = some tabObj := fun b z => by
    obtain ⟨p, hp, rfl⟩ := tabOf b z
    exact hT p hp
  have aNo : a ∉ cs.map (·.2) := fun z => by
    have q := ha.symm.trans (atTab a z)
    have q2 : Data.seq vs.toArray _ = Data.fields #[] := congrArg Obj.data (Option.some.inj q)
    cases q2
  -- sc: is the script tracked (else it is one of the module's own objects)
  obtain ⟨sc, hsc, hseq⟩ : ∃ sc : Bool, (sc = true → K.lookup a = none) ∧ SqL K (laidAt cs a vs ns sc) a (ns.map V.int) := by
    cases hk : K.lookup a with
    | none => exact ⟨true, fun _ => rfl, .inl (.inr ⟨_, laid_script aNo⟩)⟩
    | some o =>
      have q := ha.symm.trans (KX a o hk)
      cases q
      refine ⟨false, fun z => (nomatch z), .inr ⟨_, vs.toArray, _, hk, rfl, rfl, rfl, ?_, by simpa using rv⟩⟩
      rw [List.size_toArray]
      exact hi.length ▸ hl
  generalize hH : laidAt cs a vs ns sc = H at hseq
  have tabH : ∀ p ∈ cs, H p.2 = some (.tbl #[]) := fun p hp => by
    rw [← hH]
    exact laid_tab (inTab p hp)
  have casesH : ∀ {b u}, H b = some u → (b ∈ cs.map (·.2) ∧ u = .tbl #[]) ∨ (sc = true ∧ b = a ∧ u = .frz (scriptObj vs) (.lst (ns.map V.int))) := fun {b u} q => by
    rw [← hH] at q
    exact laid_cases q
  have hok : HOk P w H s₁.heap := fun b u q => by
    rcases casesH q with ⟨z, rfl⟩ | ⟨_, rfl, rfl⟩
    · exact atTab b z
    · exact ⟨ha, by rw [List.length_map]; exact hl, vs, _, rv, ha⟩
  -- an object of another data is not tracked
  have other : ∀ {b : Addr} {o : Obj}, s₁.heap.get? b = some o → o.data ≠ tabObj.data → o.data ≠ (scriptObj vs).data → H b = none := fun {b o} e n1 n2 => by
    cases q : H b with
    | none => rfl
    | some u =>
      rcases casesH q with ⟨z, _⟩ | ⟨_, z, _⟩
      · exact (n1 (congrArg Obj.data (Option.some.inj (e.symm.trans (atTab b z))))).elim
      · exact (n2 (congrArg Obj.data (Option.some.inj (e.symm.trans (z ▸ ha))))).elim
  have keeps : ∀ {b : Addr} {o : Obj}, s₁.heap.get? b = some o → o.data ≠ tabObj.data → o.data ≠ (scriptObj vs).data → (hidT s₁.heap H).get? b = some o := fun e n1 n2 => hidT_get e (other e n1 n2)
  have nsK : ∀ {b : Addr} {m : Str → Option Value}, s₁.heap.Ns b m → (hidT s₁.heap H).Ns b m := fun ⟨o, es, ep, e, d, r⟩ =>
    ⟨o, es, ep, keeps e (fun z => by rw [d] at z; cases z) (fun z => by rw [d] at z; cases z), d, r⟩
  have hKb : K.In (hidT s₁.heap H) := fun b o e => hidT_get (KX b o e) (by
    cases q : H b with
    | none => rfl
    | some u =>
      rcases casesH q with ⟨z, _⟩ | ⟨z1, z, _⟩
      · obtain ⟨p, hp, rfl⟩ := tabOf b z
        rw [nT p hp] at e
        cases e
      · rw [z, hsc z1] at e
        cases e)
  have hM : L2.Mod K mg (hidT s₁.heap H) := ⟨hKb, nsK hns, ⟨mb, nsK hb, hbb⟩, let ⟨mc, h1, h2⟩ := hlim; ⟨mc, nsK h1, h2⟩⟩
  have TB : ∀ p ∈ cs, TabB (hidT s₁.heap H) mg p.1 p.2 := fun p hp => by
    refine ⟨?_, ?_, fun z => ?_⟩
    · obtain ⟨o, us, file, tf, flags, tg, inF, text, tt, e1, r1, r2, r3, r4, r5, r6, r7, r8, hne⟩ := C p hp
      refine ⟨o, us, file, tf, flags, tg, inF, text, tt, keeps e1 (fun z => ?_) (fun z => ?_), r1, r2, r3, r4, r5, r6, r7, r8, hne⟩
      · have z2 := r2.symm.trans z
        cases z2
        simp at r3
      · have z2 := r2.symm.trans z
        cases z2
    · obtain ⟨bm, ob, b1, b2, b3, b4, b5, b6⟩ := hbm
      refine ⟨bm, ob, b1, b2, fun q => ?_, fun q => ?_, keeps b3 (fun z => ?_) (fun z => ?_), b4, b5, b6⟩
      · obtain ⟨o, es, ep, e, hd, _⟩ := hns
        have z := Option.some.inj ((q ▸ b3).symm.trans e)
        rw [← z, b6] at hd
        cases hd
      · have z := Option.some.inj ((q ▸ b3).symm.trans (hT p hp))
        rw [z] at b6
        cases b6
      · have z2 := b6.symm.trans z
        cases z2
      · have z2 := b6.symm.trans z
        cases z2
    · obtain ⟨o, es, ep, e, hd, _⟩ := hns
      have z2 := Option.some.inj ((z ▸ e).symm.trans (hT p hp))
      rw [z2] at hd
      cases hd
  have e0 : Env0 P w K mg (hidT s₁.heap H) callerA [] s₁ H :=
    ⟨rfl, hM, fun b o e => of_hidT e, Nat.le_of_eq (hidT_size _ _), trivial, fun b z => absurd (show b ∈ ([] : List Addr) from z) (by simp), hok, .of_eq hgen⟩
  refine codeAny_mono ((F _ hKb (nsK hns) TB).runs callerA [] s₁ H ⟨[.ref a], []⟩ [.ref a] [.ref a] _ _ rfl hr e0 (bind1 s₁ (.ref a)) (.cons rfl .nil) (kept H tabH hseq)) fun r s' z => ?_
  match r, z with
  | .error e, z => exact (noX H e s' z).elim
  | .ok .next, z => exact z.elim
  | .ok .brk, z => exact z.elim
  | .ok .cont, z => exact z.elim
  | .ok (.ret u), z =>
    obtain ⟨v, H', os, bare, un, hok', r', q⟩ := z
    have q1 : v = .bl true := q
    subst q1
    obtain rfl : u = Value.bool true := r'
    -- all but the tables is as it was
    have old : ∀ b o, b ∉ cs.map (·.2) → s₁.heap.get? b = some o → s'.heap.get? b = some o := fun b o nb e => by
      cases q : H b with
      | none => exact un.keep b o e q (fun z => absurd (show b ∈ ([] : List Addr) from z) (by simp)) (by simp)
      | some u =>
        rcases casesH q with ⟨z, _⟩ | ⟨_, rfl, rfl⟩
        · exact absurd z nb
        · obtain ⟨e2, _⟩ := hok' b _ (un.frzs b _ _ q)
          rw [ha] at e
          rw [← e]
          exact e2
    have grew : ∀ p ∈ cs, ∃ more : Array Value, s'.heap.get? p.2 = some { cls := .none, data := .fields more } := fun p hp => by
      obtain ⟨more, z⟩ := un.tbls p.2 #[] (tabH p hp)
      exact ⟨_, hok' p.2 _ z⟩
    refine ⟨rfl, ⟨fun b o e => ?_, fun b o e => ?_⟩, os, bare⟩
    · by_cases z : b ∈ cs.map (·.2)
      · obtain ⟨p, hp, rfl⟩ := tabOf b z
        obtain ⟨more, hm⟩ := grew p hp
        have e2 := Option.some.inj (e.symm.trans (hT p hp))
        rw [e2]
        exact .inr (.inl ⟨((C p hp).tab (hT p hp)).isCodeTable, rfl, #[], more, rfl, by rw [Array.empty_append]; exact hm⟩)
      · exact .inl (old b o z e)
    · by_cases z : b ∈ cs.map (·.2)
      · obtain ⟨p, hp, rfl⟩ := tabOf b z
        obtain ⟨more, hm⟩ := grew p hp
        exact ⟨_, hm⟩
      · exact ⟨o, old b o z e⟩

/-- what is known of the law's promise at the head's heap h -/
def LawG (l : PySem.W.OpenLaw) (w : World) (K : PySem.W.Frag) (CX : CXT) (k n : Nat) (x : Str) (mg : Str → Option Value) (fa : Addr) (h : Heap) : Prop :=
  ∃ (fd : FuncData) (cs : List (Addr × Addr)) (sp : Sp), (∀ p ∈ cs, h.get? p.2 = some tabObj) ∧ (∀ p ∈ cs, K.lookup p.2 = none) ∧ (∀ p ∈ cs, PySem.W.CodeHd h p.1 p.2) ∧
    (∀ (s : Shared) (u : Value), BindsTo s fd ⟨[u], []⟩ [(x, u)]) ∧
    (∀ (H : Hp) (a : Addr) (ns : List Int), ns.length ≤ n → (∀ z ∈ ns, Builtin.Int.intBits z ≤ 1048576) → (∀ p ∈ cs, H p.2 = some (.tbl #[])) → SqL K H a (ns.map V.int) →
      sp [.ref a] H (fun v _ => v = .bl true) fun _ _ _ => False) ∧
    ∀ base : Heap, K.In base → base.Ns mainGlobals mg → (∀ p ∈ cs, TabB base mg p.1 p.2) → FnG l.prog w K mg base CX k fa fd [x] sp
theorem walkG {l : PySem.W.OpenLaw} {n k : Nat} {q : Program} {loose : List Str} {XP : (Str → Option Value) → Heap → Prop} {YP : World → Heap → Prop} {d : DefRec} {K : Params → PySem.W.Frag} {CX : World → CXT} {x : Str}
    (hn : l.most = some n) (hn2 : n ≤ sizeLine) (hdf : d.params.defaults = []) (hr : Room k callerA)
    (hY : ∀ (w : World) (h : Heap), YP w h → (K w.params).In h)
    (F : ∀ (w : World) (mg : Str → Option Value) (fa : Addr) (h : Heap), YP w h → (K w.params).In h → h.Ns mainGlobals mg → mg d.name = some (.ref fa) →
      LawG l w (K w.params) (CX w) k n x mg fa h)
    (noX : ∀ (w : World) (H : Hp) (s : Shared) (e : Value) (s' : Shared), CX w [] H s (fun _ _ _ => False) e s' → False) :
    PySem.W.WalkO q loose XP YP l.row.toRowW d [] (fun f vs => PySem.call f vs) :=
  Att.attach_callB hn hdf fun w s₀ s₁ mg mb fa o pm cd doc a vs ns G Y ho hd hcd hmg hobj hints hlen hbits hg => by
    obtain ⟨fd, cs, sp, hT, nT, C, hb, hsp, hF⟩ := F w mg fa _ Y (hY w _ Y) G.T.g hmg
    exact law_runG (hY w _ Y) G.T.g G.T.b G.T.builtins G.T.nolimit hg hT nT C G.T.bmain hobj hints (Nat.le_trans hlen hn2) hr hF hb (fun H hH hS => hsp H a ns hlen hbits hH hS) fun H e s' => noX w H s₁ e s'
theorem walkGE {l : PySem.W.OpenLaw} {n k : Nat} {q : Program} {loose : List Str} {XP : (Str → Option Value) → Heap → Prop} {YP : World → Heap → Prop} {d : DefRec} {CX : World → CXT} {x : Str}
    (hn : l.most = some n) (hn2 : n ≤ sizeLine) (hdf : d.params.defaults = []) (hr : Room k callerA)
    (F : ∀ (w : World) (mg : Str → Option Value) (fa : Addr) (h : Heap), YP w h → h.Ns mainGlobals mg → mg d.name = some (.ref fa) →
      ∃ K : PySem.W.Frag, K.In h ∧ LawG l w K (CX w) k n x mg fa h)
    (noX : ∀ (w : World) (H : Hp) (s : Shared) (e : Value) (s' : Shared), CX w [] H s (fun _ _ _ => False) e s' → False) :
    PySem.W.WalkO q loose XP YP l.row.toRowW d [] (fun f vs => PySem.call f vs) :=
  Att.attach_callB hn hdf fun w s₀ s₁ mg mb fa o pm cd doc a vs ns G Y ho hd hcd hmg hobj hints hlen hbits hg => by
    obtain ⟨K, KX, fd, cs, sp, hT, nT, C, hb, hsp, hF⟩ := F w mg fa _ Y G.T.g hmg
    exact law_runG KX G.T.g G.T.b G.T.builtins G.T.nolimit hg hT nT C G.T.bmain hobj hints (Nat.le_trans hlen hn2) hr hF hb (fun H hH hS => hsp H a ns hlen hbits hH hS) fun H e s' => noX w H s₁ e s'
end VG

set_option maxRecDepth 100000
/-! Calls by keywords alone; x in a tuple of data; data in a heap that has grown. -/
namespace VG
open PySem PySem.Spec PyProof.Rows L2
section
variable {X : Cx} {CX : CXT} {k : Nat} {f : Addr} {fd : FuncData} {ps ks : List Str} {sp : Sp} {E : XK} {x : Str} {p pos : Pos} {kws : List Keyword} {tk : TA} {g : List Value → List Value → List Value} {gV : List V → List V → List V}
/-- f(k = v, ..) -/
theorem pe_callN0 (F : FnOk X.prog X.w X.K X.mg X.base CX k f fd ps sp) (hr : Room k X.A) (hg : Gl X x) (hm : X.mg x = some (.ref f)) (hk : PySem.W.keepIn X.K (.ref f) = true) (hb : KBn X.K fd ps 0 ks g gV)
    (hx : Passes CX X E) (hkw : PK X kws tk) (n1 : (backToKw pos (keywordEach kws X.env)).all (·.1.isSome) = true := by rfl) (n2 : (backToKw pos (keywordEach kws X.env)).filterMap (·.1) = ks := by rfl)
    (n3 : (x == ("__debug__" : Str)) = false := by decide) (n4 : ((backTo pos (starEach [] X.env)).any (·.1) || (backToKw pos (keywordEach kws X.env)).any (·.1.isNone)) = false := by rfl) :
    PE X (.Call (.Name x p) [] kws pos) (tCallN 0 ks.length sp gV E tNil tk) :=
  ⟨fun pins s σ H Q I h => wpAny_Call_Name_kw (ld_glob I hg hm (PySem.W.callWith_KW0 (h₀ := X.base) I.ok.mod.kin hk n1 (thn (hkw.run pos pins s σ H _ I h) fun ws s2 ⟨zs, H2, I2, rz, l1, l2, q2⟩ =>
    ⟨I2.kIn, by rw [n2]; exact run_fnN (us := []) (vs := []) F hr hb hx I2 .nil rz l1 l2 q2⟩) n4) n3)⟩
end
/-! ### how keywords bind -/
section
variable {K : PySem.W.Frag} {x qual : Str} {params : Arguments} {body : List Stmt} {scope : Scope} {dvs : List V} {kws : List (Str × V)} {f : Addr} {fd : FuncData} {ps : List Str}
/-- some defaults, no keyword-only ones -/
theorem kbindsD (F : FunD K x qual params body scope dvs kws f fd) (n : Nat) (ks : List Str) (g : {α : Type} → List α → List α → List α → List α) (hd : dvs ≠ [])
    (hrel : ∀ {vs ds zs : List V} {us its ws : List Value}, Vals vs us → Vals ds its → Vals zs ws → Vals (g vs ds zs) (g us its ws))
    (h : ∀ (T : Addr) (kV doc pm : Value) (an : Option Addr) (cdv ct : Value) (us its ws : List Value), us.length = n → its.length = dvs.length → ws.length = ks.length →
      ∃ k, bindArgs (PySem.W.fnOf x qual params body scope (.ref T) kV doc pm an cdv ct) ⟨us, ks.zip ws⟩ = seqItems? (.ref T) >>= k ∧ k (some its.toArray) = pure (ps.zip (g us its ws))) :
    ∃ its : List Value, KBn K fd ps n ks (fun us ws => g us its ws) (fun vs zs => g vs dvs zs) := by
  obtain ⟨oc, od, dV, kV, doc, pm, an, cdv, ct, osl, rfl, lk, hcd, hD, hK⟩ := F.ex
  rcases hD with ⟨e, _⟩ | ⟨_, T, o, its, m, rfl, lT, oT, rT⟩
  · exact absurd e hd
  · refine ⟨its, fun s us ws X l1 l2 => BindsTo.of_looks fun M => ?_, fun r1 r2 => hrel r1 rT r2⟩
    obtain ⟨k, e1, e2⟩ := h T kV doc pm an cdv ct us its ws l1 rT.length.symm l2
    rw [e1]
    exact looks_items X lT oT (.of_pure e2)
/-- no defaults at all -/
theorem kbindsN (F : FunD K x qual params body scope [] kws f fd) (n : Nat) (ks : List Str) (g : {α : Type} → List α → List α → List α)
    (hrel : ∀ {vs zs : List V} {us ws : List Value}, Vals vs us → Vals zs ws → Vals (g vs zs) (g us ws))
    (h : ∀ (kV doc pm : Value) (an : Option Addr) (cdv ct : Value) (us ws : List Value), us.length = n → ws.length = ks.length →
      bindArgs (PySem.W.fnOf x qual params body scope .none kV doc pm an cdv ct) ⟨us, ks.zip ws⟩ = pure (ps.zip (g us ws))) : KBn K fd ps n ks (fun us ws => g us ws) (fun vs zs => g vs zs) := by
  obtain ⟨oc, od, dV, kV, doc, pm, an, cdv, ct, osl, rfl, lk, hcd, hD, hK⟩ := F.ex
  rcases hD with ⟨_, rfl⟩ | ⟨e, _⟩
  · exact ⟨fun s us ws _ l1 l2 => .of_eq (h kV doc pm an cdv ct us ws l1 l2), fun r1 r2 => hrel r1 r2⟩
  · exact absurd rfl e
theorem fun_of {st : Stmt} {f : Addr} {fd : FuncData} {kws : List (Str × V)} (F : FunD K x qual (defArgs st) (defBody st) (defScope st) [] kws f fd) : Fun K x qual st f fd := by
  obtain ⟨oc, od, dV, kV, doc, pm, an, cdv, ct, osl, e, lk, hcd, hD, hK⟩ := F.ex
  rcases hD with ⟨_, rfl⟩ | ⟨e, _⟩
  · exact ⟨⟨oc, od, kV, doc, pm, an, cdv, ct, osl, e, lk, hcd⟩, F.kp⟩
  · exact absurd rfl e
end
section
variable {X : Cx}
def rInT (K : PySem.W.Frag) (neg : Bool) : R2 := fun x y H Q => ∃ d ds, Dp K H x d ∧ Dp K H y (.tuple ds) ∧ SeqAt.shaped d = true ∧ SeqAt.shaped (.tuple ds) = true ∧
  Q (.bl (if neg then !ds.any fun z => PyData.eqv z d else ds.any fun z => PyData.eqv z d)) H
theorem room_inT {A : Around} {d : PyData} {xs : List PyData} (h : SeqAt.shaped d = true) (hu : A.units + 65 < cLine) : A.units + 1 + min (PyData.depthAll xs) d.depth < cLine := by
  have z := SeqAt.depth_of_shaped h
  have := Nat.min_le_right (PyData.depthAll xs) d.depth
  omega
theorem op_inT (hu : X.A.units + 65 < cLine) : OpR X (compareOp .In) (rInT X.K false) := by
  rintro pins s σ H x y v u Q I rx ry ⟨d, ds, hd, he, sd, se, q⟩
  obtain ⟨as, r1⟩ := Dp.reads I d x v hd rx
  obtain ⟨bs, r2⟩ := Dp.reads I (.tuple ds) y u he ry
  exact SeqAt.in_tuple_reads r2 r1 (SeqAt.canLay_of_shaped se) (SeqAt.canLay_of_shaped sd) (room_inT sd hu) ⟨.bl _, H, I, rfl, q⟩
theorem op_notInT (hu : X.A.units + 65 < cLine) : OpR X (compareOp .NotIn) (rInT X.K true) := by
  rintro pins s σ H x y v u Q I rx ry ⟨d, ds, hd, he, sd, se, q⟩
  obtain ⟨as, r1⟩ := Dp.reads I d x v hd rx
  obtain ⟨bs, r2⟩ := Dp.reads I (.tuple ds) y u he ry
  exact SeqAt.notIn_tuple_reads r2 r1 (SeqAt.canLay_of_shaped se) (SeqAt.canLay_of_shaped sd) (room_inT sd hu) ⟨.bl _, H, I, rfl, q⟩
end
theorem Same.tup {K : PySem.W.Frag} {H H' : Hp} {a : Addr} {xs : List V} (e : Same H H') (h : SqT K H a xs) : SqT K H' a xs := by
  rcases h with (h | ⟨o, h⟩) | h
  · exact .inl (.inl (e _ _ h))
  · exact .inl (.inr ⟨o, e _ _ h⟩)
  · exact .inr h
mutual
theorem Dp.same {K : PySem.W.Frag} {H H' : Hp} (e : Same H H') : ∀ (d : PyData) (v : V), Dp K H v d → Dp K H' v d
  | .none, _, h => by cases h; exact .non
  | .bool b, _, h => by cases h; exact .bl b
  | .int i, _, h => by cases h; exact .int i
  | .str x, _, h => by cases h; exact .str x
  | .list ds, _, h => by
    cases h with
    | lst a b => exact .lst (e.seq a) (DpAll.same e ds _ b)
  | .tuple ds, _, h => by
    cases h with
    | tup a b => exact .tup (Same.tup e a) (DpAll.same e ds _ b)
  | .dict _, _, h => by cases h
theorem DpAll.same {K : PySem.W.Frag} {H H' : Hp} (e : Same H H') : ∀ (ds : List PyData) (vs : List V), DpAll K H vs ds → DpAll K H' vs ds
  | [], _, h => by cases h; exact .nil
  | d :: ds, _, h => by
    cases h with
    | cons a b => exact .cons (Dp.same e d _ a) (DpAll.same e ds _ b)
end
end VG

set_option maxRecDepth 100000
/-! Own exceptions whose __init__ begins with super().__init__('..'). -/
namespace VG
open PySem PySem.Spec PyProof.Rows L2
open PySem.W (ksFn ksEnv)

/-! ### the wrapper that super().__init__ is, called -/
section
variable {prog : Program} {w : World} {A : Around} {E : Value → Shared → Prop} {h : Heap} {g : Array GenState} {d : Drawn} {t : Nat} {os : OsState} {nm q : Str} {C N : Addr} {bs bm : List Value} {hdct : Bool} {sn : List Str} {sub : List Value} {ab : Bool} {col : Option Bool} {dd : Option Addr}
  {k0 k1 k2 k3 k5 : Option Value} {B i newId : String} {bmB : List Value}
theorem call_mw (FB : ExcBaseFacts B newId i bmB) {u e t0 : Addr} {rest : List Value} {Q : Value → Shared → Prop} (hC : h.get? C = some (excClassObj nm q C N bs bm hdct sn sub ab col dd k0 k1 k2 k3 k5 newId)) (he : h.get? e = some (PySem.HandSPX.excO C t0))
    (hu : h.get? u = some (PySem.W.kxs_mw i e)) (hz : rest.length ≤ sizeLine)
    (hq : ∀ h' t1, (∀ b o, b ≠ e → h.get? b = some o → h'.get? b = some o) → h'.get? e = some (PySem.HandSPX.excO C t1) → Q .none ⟨h', g, d, t, os⟩) : wpAny (model prog w) A (call (.ref u) rest) Q E ⟨h, g, d, t, os⟩ := by
  refine wpAny_call (codeAny_of_tree ?_)
  show wpAny _ A.in1 (callAny (.ref u) ⟨rest, []⟩) _ _ _
  simp only [callAny]
  refine wpAny_bind (wpAny_load hu ?_)
  simp only [PySem.W.kxs_mw, show (Value.type "method-wrapper" == Value.type "method" || Value.type "method-wrapper" == Value.type "builtin_function_or_method" || Value.type "method-wrapper" == Value.type "method-wrapper") = true by decide, if_true]
  refine PySem.W.KFB.if_so (by decide) (wpAny_bind (PySem.W.check_bound_init FB.toExcCallFacts hC he rfl (wpAny_bind (wpAny_pure (wpAny_pure ⟨PySem.plainId_quiet FB.init.plain _, codeAny_builtin FB.initEntry ?_⟩)))))
  exact PySem.W.exc_init_tree (cls := .ref C) (t0 := t0) (dv := none) (c2 := .none) (c3 := .none) (b4 := .bool false) he hz fun h' k1 k2 _ => hq h' _ k1 k2
end

/-! ### the frame of such an __init__ -/
/-- no name of its own but the parameters; what it captures is its class alone -/
structure IniScope (ps : List Str) (sc : Scope) : Prop where
  kind : sc.kind = .function
  co : sc.isCoroutine = false
  gen : sc.isGenerator = false
  nd : ps.Nodup
  par : ∀ x ∈ ps, sc.names.lookup x = some .local
  noc : ∀ y ∈ sc.names, y.2 ≠ .cell
  fre : ∀ y ∈ sc.names, y.2 = .free → y.1 = "__class__"
  sup : sc.names.lookup ("super" : Str) = some .globalImplicit
  cls : sc.names.lookup ("__class__" : Str) = some .free
def iniCx (P : Program) (w : World) (K : PySem.W.Frag) (mg : Str → Option Value) (base : Heap) (ps : List Str) (qual : Str) (sc : Scope) (f cda cc : Addr) (A : Around) (outer : List Env) (s : Shared) (H : Hp) : Cx where
  prog := P
  w := w
  K := K
  mg := mg
  base := base
  A := A.deeper (ksEnv qual sc s.heap.objs.size f (.ref cda) cc)
  N := ps
  s_0 := s
  H_0 := H
  env := ksEnv qual sc s.heap.objs.size f (.ref cda) cc
  outer := outer
  stack := ksEnv qual sc s.heap.objs.size f (.ref cda) cc :: outer
  ex := []
  fn := fun _ => false
  calm := true
  pn := []
  xe := fun _ _ => False
theorem lookup_of_mem {x : Str} {u : Value} : ∀ {l : List (Str × Value)}, (l.map (·.1)).Nodup → (x, u) ∈ l → l.lookup x = some u
  | [], _, h => by cases h
  | (y, v) :: r, nd, h => by
    have nd' := List.nodup_cons.mp nd
    rcases List.mem_cons.mp h with e | h2
    · cases e
      simp [List.lookup]
    · have ne : (x == y) = false := by
        refine beq_eq_false_iff_ne.mpr fun z => nd'.1 ?_
        rw [← z]
        exact List.mem_map.mpr ⟨_, h2, rfl⟩
      rw [List.lookup_cons, ne]
      exact lookup_of_mem nd'.2 h2
theorem zip_keys : ∀ {ps : List Str} {us : List Value}, us.length = ps.length → (ps.zip us).map (·.1) = ps
  | [], [], _ => rfl
  | p :: ps, u :: us, h => by
    show p :: (ps.zip us).map (·.1) = p :: ps
    rw [zip_keys (by simpa using h)]
  | [], _ :: _, h => by cases h
  | _ :: _, [], h => by cases h
theorem zip_mem : ∀ {ps : List Str} {us : List Value} {i : Nat} {x : Str} {u : Value}, ps[i]? = some x → us[i]? = some u → (x, u) ∈ ps.zip us
  | [], _, _, _, _, h, _ => by simp at h
  | _ :: _, [], _, _, _, _, h => by simp at h
  | p :: ps, v :: us, 0, x, u, h1, h2 => by
    simp at h1 h2
    subst h1 h2
    exact List.mem_cons_self
  | p :: ps, v :: us, i + 1, x, u, h1, h2 => List.mem_cons_of_mem _ (zip_mem (i := i) (by simpa using h1) (by simpa using h2))
theorem cell_one {x : Str} {cc c : Addr} (h : ([("__class__", cc)] : List (Str × Addr)).lookup x = some c) : x = "__class__" ∧ c = cc := by
  rw [List.lookup_cons] at h
  cases e : (x == ("__class__" : Str)) with
  | true =>
    rw [e] at h
    exact ⟨beq_iff_eq.mp e, (Option.some.inj h).symm⟩
  | false =>
    rw [e] at h
    cases h
theorem ini_start {P : Program} {w : World} {K : PySem.W.Frag} {mg : Str → Option Value} {base : Heap} {ps : List Str} {qual : Str} {sc : Scope} {f cda cc : Addr} {A : Around} {outer : List Env} {s : Shared} {H : Hp} {us : List Value} {vs : List V} {h₁ : Heap} {tk : Nat} {oc : Obj} {v0 : Option Value}
    (S : IniScope ps sc) (hd : A.handled = none) (e0 : Env0 P w K mg base A outer s H) (hl : us.length = ps.length) (r : Vals vs us) (lc : K.lookup cc = some oc) (dc : oc.data = .cell v0)
    (hns : h₁.Ns s.heap.objs.size fun y => (ps.zip us).reverse.lookup y) (hk : ∀ b o, s.heap.get? b = some o → h₁.get? b = some o) :
    Inv (iniCx P w K mg base ps qual sc f cda cc A outer s H) [] (vs.map some) H { s with heap := h₁, toks := tk } := by
  have noA : ∀ b : Addr, b ∉ (iniCx P w K mg base ps qual sc f cda cc A outer s H).ex := fun b z => absurd (show b ∈ ([] : List Addr) from z) (by simp)
  have cb := e0.bs cc oc (e0.mod.kin cc oc lc)
  refine ⟨⟨e0.mod, S.kind, rfl, rfl, Nat.le_refl _, fun x y c h1 h2 => ?_, fun x hx => ?_, fun x c z _ => ?_, fun _ => hd, Around.frames_deeper e0.frames, .inr ⟨rfl, rfl⟩, fun b z => absurd z (noA b), e0.bs, e0.bsz, fun b _ _ => noA b, fun b z => absurd z (noA b), e0.funs, e0.frf⟩,
    rfl, e0.bare, Un.kept hk, ⟨_, hns, fun i x v h1 h2 h3 => ?_⟩, fun x c h => ?_, e0.hok.fresh (Nat.le_refl _), fun x c h => ?_, fun p hp => absurd (show p ∈ ([] : List (Addr × Obj)) from hp) (by simp), e0.hok.kept hk, ?_⟩
  · exact (cell_one h1).1.trans (cell_one h2).1.symm
  · have hx : sc.names.lookup x = some .cell ∨ sc.names.lookup x = some .free := hx
    rcases hx with z | z
    · exact absurd rfl (S.noc _ (PySem.mem_of_lookup z))
    · have e := S.fre _ (PySem.mem_of_lookup z) rfl
      have e : x = "__class__" := e
      subst e
      exact ⟨cc, show ([("__class__", cc)] : List (Str × Addr)).lookup ("__class__" : Str) = some cc by simp [List.lookup]⟩
  · have z : false = true := z
    cases z
  · have hi : i < vs.length := by
      by_cases z : i < vs.length
      · exact z
      · rw [List.getElem?_eq_none (by rw [List.length_map]; omega)] at h2
        cases h2
    have ha : vs[i]? = some v := by
      rw [List.getElem?_map] at h2
      cases e : vs[i]? with
      | none => rw [e] at h2; cases h2
      | some a => rw [e] at h2; cases h2; rfl
    obtain ⟨u, hu, rv⟩ := r.get ha
    have kl := S.par x (List.mem_of_getElem? h1)
    refine ⟨u, rv, .inl ⟨kl, ?_⟩⟩
    refine lookup_of_mem ?_ (List.mem_reverse.mpr (zip_mem h1 hu))
    rw [List.map_reverse, zip_keys hl]
    exact List.pairwise_reverse.mpr (S.nd.imp Ne.symm)
  · obtain ⟨_, rfl⟩ := cell_one h
    exact ⟨v0, oc, hk _ _ cb.1, dc⟩
  · obtain ⟨_, rfl⟩ := cell_one h
    exact cb.2
  · show (vs.map some).length = ps.length
    rw [List.length_map, r.length, hl]

/-! ### such an __init__ keeps a promise -/
/-- what the written part tells of the class at C, of its __init__ at f (its cell at cc, its code at cda) -/
structure IniTxt (P : Program) (K : PySem.W.Frag) (mg : Str → Option Value) (B i newId : String) (bmB : List Value) (C f cc cda : Addr) (qual : Str) (params : Arguments) (body : List Stmt) (sc : Scope) (fd : FuncData) : Prop where
  kf : PySem.W.KxsFacts B i
  fb : ExcBaseFacts B newId i bmB
  fn : ∃ oc od dV kV doc pm an ct osl, fd = ksFn "__init__" qual params body sc dV kV doc pm an (.ref cda) ct cc ∧ K.lookup f = some ⟨oc, od, .func fd, osl⟩
  code : PySem.W.codeIn K (.ref cda) qual = true
  file : ∃ ccl cdd vs ccs tf, K.lookup cda = some ⟨ccl, cdd, .fields vs, ccs⟩ ∧ vs[2]? = some (.str P.main.file tf)
  cell : ∃ cl cld csl, K.lookup cc = some ⟨cl, cld, .cell (some (.ref C)), csl⟩
  cls : ∃ nm q N bs bm hdct sn sub ab col dd k0 k1 k2 k3 k5, K.lookup C = some (excClassObj nm q C N bs bm hdct sn sub ab col dd k0 k1 k2 k3 k5 newId)
  up : PySem.W.ks_superIn K C C "__init__" = some (some (.builtin i))
  isB : PySem.W.subIn K (.ref C) (.type B) = some true
  self : PySem.W.mroIn K C (.ref C) = some true
  opq : PySem.W.nsIn K cStatics "thirdparty.any" = some none
  sup : mg "super" = none
  top : (P.main.scope.names.lookup ("super" : Str)).isSome = false
abbrev superInit (p0 p1 p2 p3 p4 p5 : Pos) (j : Nat) (z : Str) : Stmt := .Expr (.Call (.Attribute (.Call (.Name "super" p0) [] [] p1) "__init__" p2) [.Constant (.str z) j p3] [] p4) p5
def spIni (C : Addr) (t : TS) : Sp := fun vs H Q _ => ∃ (a : Addr) (ws : List V), vs = .ref a :: ws ∧ H a = some (exo a C none) ∧ t { nx := fun _ H' => Q .non H', rt := Q } (vs.map some) H
section
variable {P : Program} {w : World} {K : PySem.W.Frag} {mg : Str → Option Value} {base : Heap} {B i newId : String} {bmB : List Value} {C f cc cda : Addr} {qual : Str} {params : Arguments} {rest : List Stmt} {sc : Scope} {fd : FuncData} {ps : List Str} {p0 p1 p2 p3 p4 p5 : Pos} {j k : Nat} {z : Str} {self : Arg} {sp : Sp}
/-- how super().__init__('..') is run, where it stands on one line -/
def SupEv (p0 p1 p2 p3 p4 : Pos) (j : Nat) (z : Str) : Prop := ∀ env : Env, ∃ pl : Sem Bool, eval (.Call (.Attribute (.Call (.Name "super" p0) [] [] p1) "__init__" p2) [.Constant (.str z) j p3] [] p4) env = (do
  let ov ← attributeBase (.Call (.Name "super" p0) [] [] p1) "__init__" env (eval (.Call (.Name "super" p0) [] [] p1) env)
  standAt p2.atName
  let (f, first) ← holding [ov] (getMethod ov "__init__" pl)
  callWith p4 f first (backTo p4 (starEach [.Constant (.str z) j p3] env)) [])
theorem ini_ok (hev : SupEv p0 p1 p2 p3 p4 j z) (T : IniTxt P K mg B i newId bmB C f cc cda qual params (superInit p0 p1 p2 p3 p4 p5 j z :: rest) sc fd) (S : IniScope ps sc) (hself : (params.posonlyargs ++ params.args).head? = some self) (hp0 : ps[0]? = some self.arg)
    (many : ∀ vs H Q E, sp vs H Q E → vs.length = ps.length)
    (body : ∀ (A : Around) (outer : List Env) (s : Shared) (H : Hp) (vs : List V) (Q : VK) (E : XK), Room k (A.deeper (ksEnv qual sc s.heap.objs.size f (.ref cda) cc)) → sp vs H Q E →
      ∃ a ws, vs = .ref a :: ws ∧ H a = some (exo a C none) ∧ ∃ t, PSs (iniCx P w K mg base ps qual sc f cda cc A outer s H) rest t ∧ t { nx := fun _ H' => Q .non H', rt := Q } (vs.map some) H) :
    FnOk P w K mg base CX0 (k + 1) f fd ps sp := by
  obtain ⟨oc, od, dV, kV, doc, pm, an, ct, osl, rfl, lk⟩ := T.fn
  obtain ⟨ccl, cdd, cvs, ccs, tf, lcode, hfile⟩ := T.file
  obtain ⟨cl, cld, csl, lcell⟩ := T.cell
  obtain ⟨nm, q, N, bs, bm, hdct, sn, sub, ab, col, dd, k0, k1, k2, k3, k5, lC⟩ := T.cls
  refine ⟨many, fun A outer s H args us vs Q E hr e0 hb r hsp => ?_⟩
  have KX : K.In s.heap := e0.mod.kin.keeps fun b o e => (e0.bs b o e).1
  have lim : s.heap.NoLimit := e0.mod.nolimit.keeps fun b o e => (e0.bs b o e).1
  have hl : us.length = ps.length := r.length.symm.trans (many _ _ _ _ hsp)
  refine PySem.ks_codeAny_call_defAt (body := superInit p0 p1 p2 p3 p4 p5 j z :: rest) (binds := ps.zip us) hr.depth (KX _ _ lk) rfl lim (PySem.W.codeRec_of KX T.code) rfl hb S.noc (fun y hy => S.par y.1 (List.of_mem_zip hy).1) (fun h₁ hns hk => ?_) S.co S.gen S.kind
  obtain ⟨a, ws, rfl, hea, t, ht, hq⟩ := body A outer s H vs Q E (hr.deeper _) hsp
  have I : Inv (iniCx P w K mg base ps qual sc f cda cc A outer s H) [] ((V.ref a :: ws).map some) H { s with heap := h₁, toks := s.toks + (ps.zip us).length } := ini_start S hr.hd e0 hl r lcell rfl hns hk
  have hu0 : us[0]? = some (.ref a) := by
    obtain ⟨u, h1, h2⟩ := r.get (i := 0) (x := .ref a) rfl
    rw [h1]
    exact congrArg some h2
  have hself' : (ps.zip us).reverse.lookup self.arg = some (.ref a) := by
    refine lookup_of_mem ?_ (List.mem_reverse.mpr (zip_mem hp0 hu0))
    rw [List.map_reverse, zip_keys hl]
    exact List.pairwise_reverse.mpr (S.nd.imp Ne.symm)
  have fin : ∀ {σ' : L2.St} {H' : Hp} {v : V} {u : Value} {s' : Shared}, Inv (iniCx P w K mg base ps qual sc f cda cc A outer s H) [] σ' H' s' → RelV v u → Q v H' → CE outer P w H s Q u s' := fun J rv q => ⟨_, _, J.os, J.bare, J.base, J.hok, rv, q⟩
  have X1 := I.kIn
  obtain ⟨mb, hmb, hbb⟩ := I.mod.blt
  obtain ⟨t0, hoe⟩ := exo_at I.hok hea
  have hC1 := X1 _ _ lC
  have hcd : PySem.W.clsIn K C = some { name := nm, bases := bs, mro := .ref C :: bm, ns := N, qualname := q, hasDict := hdct, slotNames := sn, subclasses := sub, abstract := ab, collection := col, hasDel := false } := by
    unfold PySem.W.clsIn
    rw [lC] <;> rfl
  have hint : interactive (ksEnv qual sc s.heap.objs.size f (.ref cda) cc) = false := by
    unfold interactive
    simp [S.kind]
  obtain ⟨pl, he⟩ := hev (ksEnv qual sc s.heap.objs.size f (.ref cda) cc)
  refine PySem.ks_wpAt_execs_cons (PySem.ks_wpAt_Expr_any (PySem.ks_wpAt_MethodCall (pl := pl) ?_ he) hint)
  refine PySem.ks_wpAt_super_base (env := ksEnv qual sc s.heap.objs.size f (.ref cda) cc) S.sup S.cls (by decide) rfl (X1 _ _ lk) rfl hself rfl (X1 _ _ lcode) rfl hfile (beq_self_eq_true _) T.top ?_
  refine PySem.W.ks_loadName_global S.kind S.sup (Calls.loadGlobal_builtin (env := ksEnv qual sc s.heap.objs.size f (.ref cda) cc) (I.mod.glob.keeps I.bk) T.sup (hmb.keeps I.bk) ((hbb "super" (by decide +kernel)).trans PyProof.Rows.Boot.«super») ⟨rfl, ?_⟩)
  refine wpAny_loadName_free S.kind S.cls rfl ⟨_, X1 _ _ lcell, rfl⟩ ?_
  refine wpAny_loadName_local S.kind (S.par _ (List.mem_of_getElem? hp0)) hns hself' ?_
  refine PySem.ks_wpAny_isType_cls hC1 rfl ⟨rfl, ?_⟩
  refine PySem.ks_wpAny_call_super hC1 rfl hoe rfl (fun c e => by cases e) (PySem.W.looks_mroIn X1 T.self) (fun h2 e2 k2 => ?_)
  have I2 := I.kept (t' := s.toks + (ps.zip us).length) k2
  have X2 := I2.kIn
  have hoe2 := k2 _ _ hoe
  have J2 : PySem.W.InstAt h2 a (PySem.HandSPX.excO C t0) C none := ⟨hoe2, rfl, rfl, trivial⟩
  have hup : PySem.W.alongIn K "__init__" (((Value.ref C :: bm).dropWhile (· != .ref C)).drop 1) = some (some (.builtin i)) := by
    have z := T.up
    unfold PySem.W.ks_superIn at z
    rw [hcd] at z
    exact z
  have haC : a ≠ C := fun z => by
    have n := (I.bs C _ (I.mod.kin _ _ lC)).2
    rw [← z, hea] at n
    cases n
  refine PySem.W.kxs_getMethod T.kf e2 (PySem.W.looks_opaque X2 T.opq) (l₀ := .ref C :: bm) (fun A Q E s k q => wpAny_bind ((PySem.W.looks_clsIn X2 hcd) A _ E s k (wpAny_pure q))) rfl X2 hup (J2.type.andThen (PySem.W.looks_subIn X2 T.isB)) haC (by decide) ?_
  have I3 : Inv (iniCx P w K mg base ps qual sc f cda cc A outer s H) [(h2.objs.size, PySem.W.kxs_mw i a)] ((V.ref a :: ws).map some) H ⟨h2.push (PySem.W.kxs_mw i a), s.gens, s.drawn, s.toks + (ps.zip us).length + 1, s.os⟩ :=
    ClX.pin_new (s := ⟨h2, s.gens, s.drawn, s.toks + (ps.zip us).length, s.os⟩) (t' := s.toks + (ps.zip us).length + 1) I2 (fun b o e => Heap.get?_push_of_some _ e) (Nat.le_refl _) (Heap.get?_push_size _ rfl) (fun v z => nomatch z)
  refine PySem.W.kxs_callWith (i := i) (x := a) rfl (PySem.Calls.evalArgs_plain ?_)
  have PA1 : PA (iniCx P w K mg base ps qual sc f cda cc A outer s H) [.Constant (.str z) j p3] (tCons (tC (.str z)) tNil) := pa_cons pe_str pa_nil
  refine thnF (PA1.run p4 _ _ ((V.ref a :: ws).map some) H (fun vs H' => vs.length ≤ 1 ∧ H' = H) I3 ⟨Nat.le_refl _, rfl⟩) fun us4 s4 ⟨vs4, H4, I4, r4, l4, e4⟩ => ?_
  subst e4
  refine ⟨ClX.pin_at I4, ?_⟩
  have X4 := I4.kIn
  obtain ⟨t4, hoe4⟩ := exo_at I4.hok hea
  obtain ⟨g4, gs4, d4, tk4, os4⟩ := s4
  refine call_mw T.fb (X4 _ _ lC) hoe4 (ClX.pin_at I4) (by show us4.length ≤ sizeLine; rw [← r4.length, sizeLine_eq]; omega) fun h5 t5 k5 e5 => ?_
  have I5 := (ClX.unpin I4).write (t' := tk4) (x := a) (e := a) (o := exo a C none) (by rw [hea]; exact True.intro) (.inl rfl) k5 ⟨_, e5⟩ (exo_ok e5)
  have eu : upd H4 a (exo a C none) = H4 := by
    funext b
    by_cases hb : b = a
    · rw [hb, upd_same, hea]
    · rw [upd_ne hb]
  rw [eu] at I5
  refine wpAt_of_wpAny (thnF (ht.run [] _ _ _ _ I5 hq) fun fl s' hs => ?_)
  match fl, hs with
  | .ret u, hs =>
    obtain ⟨v, σ', H', J, rv, q⟩ := hs
    exact fin J rv q
  | .next, hs =>
    obtain ⟨σ', H', J, q⟩ := hs
    exact fin (v := V.non) (u := Value.none) J rfl q
  | .brk, hs =>
    obtain ⟨_, _, _, q⟩ := hs
    exact False.elim q
  | .cont, hs =>
    obtain ⟨_, _, _, q⟩ := hs
    exact False.elim q
end
end VG

set_option maxRecDepth 100000
/-! The name of an exception's class; errors that keep what they were given. -/
namespace VG
open PySem PySem.Spec PyProof.Rows L2

/-! ### o.__class__ of an own exception, C.__name__ of an own class -/
structure ClsTxt (K : PySem.W.Frag) (C : Addr) (nm : Str) : Prop where
  ga : PySem.W.findIn K (.ref C) "__getattribute__" = some (some (.builtin "BaseException.__getattribute__"))
  gg : PySem.W.findIn K (.ref C) "__getattr__" = some none
  exC : PySem.W.subIn K (.ref C) (.type "BaseException") = some true
  isC : (PySem.W.clsIn K C).isSome = true
  ca : PySem.W.findIn K (.ref C) "__class__" = some (some (.builtin "object.__class__"))
  cn : PySem.W.specialIn K (.builtin "object.__class__") "__get__" = some (some (.builtin "getset_descriptor.__get__"))
  ct : PySem.W.takesIn K (.builtin "object.__class__") = some true
  cm : PySem.W.mroIn K C (.type "object") = some true
  rd : PySem.W.readsIn K C (.type "type") = true
  na : PySem.W.findCls K (.ref C) (.type "type") "__name__" = some (.get (.builtin "getset_descriptor.__get__") (.builtin "type.__name__") (.ref C) (.type "type"))
  ty : PySem.W.typeIn K (.ref C) = some (.type "type")
  nm : ∃ oc od dt sl tk, K.lookup C = some ⟨oc, od, dt, sl⟩ ∧ sl[2]? = some (some (.str nm tk))
section
variable {prog : Program} {w : World} {A : Around} {E : Value → Shared → Prop} {s : Shared} {K : PySem.W.Frag} {C x : Addr} {nm : Str} {ox : Obj} {od : Option Obj}
theorem find_class (T : ClsTxt K C nm) : PySem.W.findObj K C od "__class__" = some (.bind (.builtin "getset_descriptor.__get__") (.builtin "object.__class__")) := by
  obtain ⟨cd, hc⟩ := Option.isSome_iff_exists.mp T.isC
  unfold PySem.W.findObj
  rw [hc, Option.bind_some, T.ca, Option.bind_some]
  simp [T.cn, T.ct]
theorem get_class {expr : Bool} {Q : Value → Shared → Prop} (T : ClsTxt K C nm) (X : K.In s.heap) (I : PySem.W.InstAt s.heap x ox C od) (h : Q (.ref C) { s with toks := s.toks + 1 }) : wpAny (model prog w) A (getAttr (.ref x) "__class__" expr) Q E s := by
  obtain ⟨hp, g, d, t, os⟩ := s
  have ty := I.type (M := model prog w)
  have own : (onTheHeap (Value.ref C) && Value.builtin "BaseException.__getattribute__" == Value.builtin "object.__getattribute__") = false := by
    rw [show (Value.builtin "BaseException.__getattribute__" == Value.builtin "object.__getattribute__") = false by decide +kernel, Bool.and_false]
  have plain : (expr && onTheHeap (Value.builtin "BaseException.__getattribute__")) = false := by cases expr <;> rfl
  unfold getAttr getAttrBy
  refine wpAny_bind (wpAny_mkText (wpAny_holding (wpAny_bind (ty.at (wpAny_bind ((PySem.W.looks_findIn X T.ga).at ?_))))))
  dsimp only
  rw [own, if_neg (by decide)]
  unfold getAttrByItsOwn hookBefore
  refine wpAny_bind ?_
  rw [if_pos (show onTheHeap (Value.ref C) = true from rfl)]
  refine (PySem.W.looks_findIn X T.gg).at (wpAny_bind (wpAny_attempt (wpAny_holding ?_)))
  unfold callGetattribute
  rw [plain, if_neg (by decide)]
  unfold boundAndCalled
  rw [PySem.F.excAttr_ValueError.ga.bind (.ref x)]
  refine wpAny_bind (wpAny_pure (wpAny_call (codeAny_call_builtin PySem.F.excAttr_ValueError.ga.plain PySem.F.entry_bexc_ga ?_)))
  refine @PySem.W.check_slot (model prog w) _ _ ⟨hp, g, d, t + 1, os⟩ "BaseException.__getattribute__" "BaseException" "__getattribute__" (.ref x) [.str "__class__" t] [] _ (by decide +kernel) (by decide +kernel)
    (ty.andThen (PySem.W.looks_subIn X T.exC)) (PySem.F.args_bexc_ga (.ref x) (.str "__class__" t)) ?_
  unfold Builtin.«object.__getattribute__»
  refine wpAny_bind (wpAny_of_eq (a := ((Value.ref x : Value), [Value.str "__class__" t])) (by first | rfl | (simp only [slotArgs]; rfl)) ?_)
  refine wpAny_bind (wpAny_pure (wpAny_bind (ty.at (wpAny_bind ((PySem.W.looks_find X I (find_class T)).at ?_)))))
  refine wpAny_bind (wpAny_holding (wpAny_call (PySem.W.class_get (s := ⟨hp, g, d, t + 1, os⟩) X I T.cm ?_)))
  refine wpAny_pure ?_
  exact PySem.W.handed_on (v := .ref C) rfl h
theorem get_name {expr : Bool} {Q : Value → Shared → Prop} (T : ClsTxt K C nm) (X : K.In s.heap) (h : ∀ tk, Q (.str nm tk) { s with toks := s.toks + 1 }) : wpAny (model prog w) A (getAttr (.ref C) "__name__" expr) Q E s := by
  obtain ⟨oc, od, dt, sl, tk, lC, hsl⟩ := T.nm
  refine PySem.W.cls_bind X T.rd T.na ?_
  obtain ⟨hp, g, d, t, os⟩ := s
  have hC := X _ _ lC
  have ty : PySem.W.Looks (model prog w) hp (typeOf (.ref C)) (.type "type") := PySem.W.looks_typeIn X T.ty
  have L1 : PySem.W.Looks (model prog w) hp (isSubtype (.type "type") (.type "type")) true := PySem.W.Looks.of_pure (by rw [isSubtype_type]; kernel_rfl)
  refine wpAny_call (codeAny_call_builtin PySem.W.KF.slot_gs.plain PySem.W.KF.entry_gs (PySem.W.KF.slot_gs.check _ _ _ _ _ _ _ _ PySem.W.ktyn_type (PySem.W.KF.args_gs _ _ _) ?_))
  unfold Builtin.«getset_descriptor.__get__» Builtin.Getset_descriptor.descrGet
  rw [PySem.W.dga_obj]
  refine wpAny_bind (wpAny_pure ?_)
  unfold Builtin.Getset_descriptor.descrGetter Builtin.Getset_descriptor.descrCheckInstance Builtin.Getset_descriptor.descrNameAndClass isInstance
  simp only [PySem.W.ktyn_owner]
  repeat lk
  refine ⟨Code.quiet_builtin _ (by decide +kernel), codeAny_builtin PySem.W.ktyn_entry ?_⟩
  unfold Builtin.«type.__name__» Builtin.keptObject slotAt
  dsimp only
  refine wpAny_bind (wpAny_bind (wpAny_bind (wpAny_loadPart_at hC (wpAny_pure ?_))))
  rw [hsl]
  exact wpAny_pure (wpAny_pure (PySem.W.handed_on (v := .str nm tk) rfl (h tk)))
end
/-- o.__class__.__name__, o an exception that is being made -/
def tClsName (K : PySem.W.Frag) (to : TE) : TE := fun σ H Q => to σ H fun x H1 => ∃ (a C : Addr) (nm : Str), x = .ref a ∧ ClsTxt K C nm ∧ (H1 a = some (exo a C none) ∨ ∃ (dx : Addr) (fs : List (Str × V)), H1 a = some (exo a C (some dx)) ∧ H1 dx = some (exd dx fs)) ∧ Q (.str nm) H1
theorem pe_clsName {X : Cx} {o : Expr} {to : TE} {p1 p2 : Pos} (ho : PE X o to) (b1 : attributeBase o "__class__" X.env (eval o X.env) = eval o X.env := by rfl)
    (b2 : attributeBase (.Attribute o "__class__" p1) "__name__" X.env (eval (.Attribute o "__class__" p1) X.env) = eval (.Attribute o "__class__" p1) X.env := by rfl) :
    PE X (.Attribute (.Attribute o "__class__" p1) "__name__" p2) (tClsName X.K to) := by
  refine ⟨fun pins s σ H Q I h => ?_⟩
  refine attr_of b2 (attr_of b1 (thn (ho.run pins s σ H _ I h) fun u s1 ⟨x, H1, I1, rx, a, C, nm, ex, T, hea, q⟩ => ?_))
  subst ex
  obtain rfl : u = Value.ref a := rx
  have fin : ∀ {ox : Obj} {od : Option Obj}, PySem.W.InstAt s1.heap a ox C od → wpAny (model X.prog X.w) X.A (getAttr (.ref a) "__class__" true) (fun o s₁ => wpAny (model X.prog X.w) X.A (getAttr o "__name__" true) (EP X pins σ Q) X.xe s₁) X.xe s1 := fun J =>
    get_class T I1.kIn J (get_name T (I1.tok _).kIn fun tk => ⟨.str nm, H1, (I1.tok _).tok _, ⟨tk, rfl⟩, q⟩)
  rcases hea with e | ⟨dx, fs, e, ed⟩
  · obtain ⟨t1, ho1⟩ := exo_at I1.hok e
    exact fin (od := none) ⟨ho1, rfl, rfl, trivial⟩
  · obtain ⟨t1, ho1⟩ := exo_at I1.hok e
    obtain ⟨mA, hns, rel⟩ := exd_at I1.hok ed
    obtain ⟨oD, _, _, hoD, _, _⟩ := hns.count (within_of rel)
    exact fin (od := some oD) ⟨ho1, rfl, rfl, hoD⟩
end VG

set_option maxRecDepth 100000
/-! try: .. except (A, B, C) as n: .. -/
namespace VG
open PySem PySem.Spec PyProof.Rows L2

theorem flying_kept {B h h' : Heap} {l : List Env} {a : Addr} {Z : Obj → Prop} (k : ∀ b o, h.get? b = some o → h'.get? b = some o) (x : HandSPX.FlyingZ B l a Z h) : HandSPX.FlyingZ B l a Z h' := by
  obtain ⟨st, nb, ff, oe, vs, T, oT, ts, h1, h2, h3, h4, h5, h6, h7, h8, h9⟩ := x
  exact ⟨fun b o e => k b o (st b o e), nb, ff.of_keeps fun b o e _ => ⟨o, k b o e, rfl⟩, oe, vs, T, oT, ts, k _ _ h1, h2, h3, h4, h5, h6, k _ _ h7, h8, h9⟩
/-- what such a clause wishes of an exception of the body (one of another class is not looked at here) -/
def wAs3 (K : PySem.W.Frag) (cs : List Value) (i n : Nat) (ts : Addr → Value → Option Addr → TS) (D : Ends) : WX := fun cls d σ H => PySem.W.exmAny K cls cs = some true ∧
  ∀ a, H a = none → σ.length = n → ts a cls d { nx := fun σ' H' => D.nx (σ'.set i none) H', rt := D.rt, bk := fun σ' H' => D.bk (σ'.set i none) H', ct := fun σ' H' => D.ct (σ'.set i none) H' } (σ.set i (some (.ref a))) H
section
variable {X : Cx} {x1 x2 x3 n : Str} {c1 c2 c3 : Value} {i j : Nat} {body suite : List Stmt} {b₀ : Stmt} {q1 q2 q3 tpos pos pos' : Pos} {tb : WX → TS} {ts : Addr → Value → Option Addr → TS}
theorem name_at {pins : List (Addr × Obj)} {σ : L2.St} {H : Hp} {s : Shared} {x : Str} {c : Value} {p : Pos} {E : Value → Shared → Prop} {Q : Value → Shared → Prop} (I : Inv X pins σ H s) (hc : Names X x c) (q : Q c s) : wpAny (model X.prog X.w) X.A (eval (.Name x p) X.env) Q E s := by
  obtain ⟨hg, hd, hm | ⟨hm, hv, hn⟩⟩ := hc
  · exact ld_glob I hg hm q hd
  · exact ld_blt I hg hm hv q hn hd
theorem ps_try_as3 (hs : X.stack = X.env :: X.outer) (hf : X.env.frame = some X.env.locals) (hN : X.N.Nodup) (hi : X.N[i]? = some n) (hln : X.env.kindOf n = some .local) (n1 : Names X x1 c1) (n2 : Names X x2 c2) (n3 : Names X x3 c3)
    (hb : ∀ (W : WX) (pn : List (Addr × Obj)) (xe : Value → Shared → Prop), Takes (X.tr pn xe) W → PassesOwn (model X.prog X.w) X.A X.env xe → PSs (X.tr pn xe) body (tb W))
    (hsu : ∀ (a : Addr) (oe : Obj) (cls : Value) (d : Option Addr) (pn : List (Addr × Obj)), Zc cls d oe → (∃ vs, oe.data = .fields vs) → PSs (X.suite a ((a, oe) :: pn)) (b₀ :: suite) (ts a cls d)) :
    PS X (.Try body [.ExceptHandler (some (.Tuple [.Name x1 q1, .Name x2 q2, .Name x3 q3] j tpos)) (some n) (b₀ :: suite) pos'] [] [] pos) (fun D σ H => tb (wAs3 X.K [c1, c2, c3] i X.N.length ts D) D σ H) := by
  refine ⟨fun pins s σ H D I h => ?_⟩
  have ok := I.ok
  have hfr : X.A.frames = some (X.env :: X.outer) := by rw [ok.frames, hs]
  have loc : Loc X.env.scope n := .inl hln
  refine wpAny_Try_except (wpAny_mono ((hb (wAs3 X.K [c1, c2, c3] i X.N.length ts D) (X.pn ++ pins) (fun e s₁ => wpAny (model X.prog X.w) X.A (noteFrame e X.env) (fun _ s₂ => wpAny (model X.prog X.w) X.A (setFlight e none) (fun _ s₃ =>
    wpAny (model X.prog X.w) X.A (handleBy e X.env [.ExceptHandler (some (.Tuple [.Name x1 q1, .Name x2 q2, .Name x3 q3] j tpos)) (some n) (b₀ :: suite) pos']) (SP X pins D) X.xe s₃) X.xe s₂) X.xe s₁) (fun u s' xx => ?_) PassesOwn.looking).run [] s σ H D (I.toTry _) h)
    (fun f s1 hsp => ?_) (fun e s1 he => he))
  · obtain ⟨a, B, sI, pins', σ', H', cls, d, rfl, J', nb, up, sky, na, os, ag, yes, go⟩ := xx
    have J : Inv X pins σ' H' sI := J'.ofTry ok
    refine Sky.land Zc.steady hfr hf (show Sky B (X.env :: X.outer) a (Zc cls d) X.env.locals s'.heap by rw [← hs]; exact sky) fun h3 fl3 up3 => ?_
    have J3 : Inv X pins σ' H' { s' with heap := h3 } := J.landed nb fl3.1 (up.trans up3) os ag
    obtain ⟨oe3, vs3, he3, hz3, hd3⟩ := fl3.there
    have nfr : a ∉ frs (X.env :: X.outer) := fun hm => by
      obtain ⟨_, o', e', z⟩ := fl3.2.2.1.mem hm
      rw [he3] at e'
      cases e'
      exact z _ hd3
    have nL : a ≠ X.env.locals := fun z => nfr (List.mem_filterMap.mpr ⟨X.env, List.mem_cons_self, by rw [hf, z]⟩)
    have nF : a ∉ X.fs := fun hm => by
      obtain ⟨e, he, q⟩ := List.mem_filterMap.mp hm
      exact nfr (List.mem_filterMap.mpr ⟨e, List.mem_cons_of_mem _ he, q⟩)
    have S3 := J3.suite he3 hd3 na nL nF
    have up13 := up.trans up3
    refine wpAny_handleBy_cons (codeAny_handlers_test ?_) (by intro q; cases q)
    refine wpAny_Tuple (wpAny_items_cons (name_at (X := X.suite a ((a, oe3) :: (X.pn ++ pins))) S3 n1 (wpAny_items_cons (name_at (X := X.suite a ((a, oe3) :: (X.pn ++ pins))) S3 n2 (wpAny_items_cons (name_at (X := X.suite a ((a, oe3) :: (X.pn ++ pins))) S3 n3 (wpAny_items_nil ⟨by size_fits, ?_⟩)))))))
    have kp : ∀ q o, h3.get? q = some o → (h3.push { cls := .type "tuple", data := .seq [c1, c2, c3].toArray }).get? q = some o := fun _ _ z => Heap.get?_push_of_some _ z
    have ty : PySem.W.Looks (model X.prog X.w) (h3.push { cls := .type "tuple", data := .seq [c1, c2, c3].toArray }) (typeOf (.ref a)) cls := fun A Q E s k q => wpAny_typeOf_ref (k _ _ (kp _ _ he3)) (by rw [hz3.1]; exact q)
    have fl4 := flying_kept kp fl3
    have up4 : h3.UpToSlots (h3.push { cls := .type "tuple", data := .seq [c1, c2, c3].toArray }) := .of_keeps kp
    have J4 : Inv X pins σ' H' { s' with heap := h3.push { cls := .type "tuple", data := .seq [c1, c2, c3].toArray } } := J.landed nb fl4.1 (up13.trans up4) os ag
    refine (PySem.W.exm_tup3 J4.kIn ty (Heap.get?_push_size h3 rfl) yes).here ?_
    refine codeAny_handlers_suite_as (HandSPX.lands_againZ fl4 fun h5 fl5 up5 => ?_)
    have J5 : Inv X pins σ' H' { s' with heap := h5 } := J.landed nb fl5.1 ((up13.trans up4).trans up5) os ag
    obtain ⟨oe5, vs5, he5, hz5, hd5⟩ := fl5.there
    have S5 := J5.suite he5 hd5 na nL nF
    refine store_ok (X := X.suite a ((a, oe5) :: (X.pn ++ pins))) (v := .ref a) S5 hN hi loc rfl (fun s6 S6 => ?_) (.inr hln)
    refine wpAny_mono ((hsu a oe5 cls d (X.pn ++ pins) hz5 ⟨_, hd5⟩).run [] s6 _ H' _ S6 (go a na J.len)) (fun f s7 hsp => ?_) (fun _ _ z => False.elim z)
    have fin : ∀ {σ7 : L2.St} {H7 : Hp} {Q : Shared → Prop}, Inv (X.suite a ((a, oe5) :: (X.pn ++ pins))) [] σ7 H7 s7 → (∀ s8, Inv X pins (σ7.set i none) H7 s8 → Q s8) →
        wpAny (model X.prog X.w) X.A (do bindName X.env n .none; unbindBehindTheSuite X.env n pos') (fun _ s8 => Q s8) X.xe s7 := fun S7 q => gone_ok (S7.unsuite ok) hN hi hln q
    match f, hsp with
    | .next, ⟨_, _, S7, q⟩ => exact fin S7 fun s8 J8 => ⟨_, _, J8, q⟩
    | .brk, ⟨_, _, S7, q⟩ => exact fin S7 fun s8 J8 => ⟨_, _, J8, q⟩
    | .cont, ⟨_, _, S7, q⟩ => exact fin S7 fun s8 J8 => ⟨_, _, J8, q⟩
    | .ret u, ⟨v, _, _, S7, r, q⟩ => exact fin S7 fun s8 J8 => ⟨_, _, _, J8, r, q⟩
  · match f, hsp with
    | .next, ⟨σ', H', J', q⟩ => exact wpAny_execs_nil ⟨σ', H', J'.ofTry ok, q⟩
    | .brk, ⟨σ', H', J', q⟩ => exact ⟨σ', H', J'.ofTry ok, q⟩
    | .cont, ⟨σ', H', J', q⟩ => exact ⟨σ', H', J'.ofTry ok, q⟩
    | .ret u, ⟨v, σ', H', J', r, q⟩ => exact ⟨v, σ', H', J'.ofTry ok, r, q⟩
end
end VG

set_option maxRecDepth 100000
/-! A def that is called within a suite with the exception that is in hand; it reads its fields and raises nothing. -/
namespace VG
open PySem PySem.Spec PyProof.Rows L2
open L2H (RoomH PinOk cxH inv_startH)
/-- p: the exception's address and its object -/
structure FnE (P : Program) (w : World) (K : PySem.W.Frag) (mg : Str → Option Value) (base : Heap) (CX : CXT) (k : Nat) (f : Addr) (fd : FuncData) (ps : List Str) (sp : Addr × Obj → Sp) : Prop where
  many : ∀ p vs H Q E, sp p vs H Q E → vs.length = ps.length
  runs : ∀ (A : Around) (outer : List Env) (s : Shared) (H : Hp) (args : Args) (us : List Value) (vs : List V) (Q : VK) (E : XK) (p : Addr × Obj), RoomH k A → PinOk outer H s p → Env0 P w K mg base A outer s H →
    BindsTo s fd args (ps.zip us) → Vals vs us → sp p vs H Q E → codeAny (model P w) A (.call (.ref f) args) (CR CX outer P w H s Q E) s
section
variable {P : Program} {w : World} {K : PySem.W.Frag} {mg : Str → Option Value} {base : Heap}
theorem okE {x qual : Str} {st : Stmt} {f : Addr} {fd : FuncData} {N ps : List Str} {k : Nat} {sp : Addr × Obj → Sp} (F : Fun K x qual st f fd) (S : FnScope N ps (defScope st)) (many : ∀ p vs H Q E, sp p vs H Q E → vs.length = ps.length)
    (body : ∀ (cdv : Value) (A : Around) (outer : List Env) (s : Shared) (H : Hp) (vs : List V) (Q : VK) (E : XK) (p : Addr × Obj), RoomH k (A.deeper (envOfC qual (defScope st) s.heap.objs.size f cdv)) → sp p vs H Q E →
      ∃ t, PSs (cxH CX0 P w K mg base N qual (defScope st) f cdv A outer s H E p).nox (defBody st) t ∧ t { nx := fun _ H' => Q .non H', rt := Q } (L2.start N vs) H) : FnE P w K mg base CX0 (k + 1) f fd ps sp := by
  obtain ⟨oc, od, kV, doc, pm, an, cdv, ct, osl, rfl, lk, hcd⟩ := F.ex
  refine ⟨many, fun A outer s H args us vs Q E p hr pin e0 hb r q => ?_⟩
  have hl := many _ _ _ _ _ q
  have KX : K.In s.heap := e0.mod.kin.keeps fun b o e => (e0.bs b o e).1
  have lim : s.heap.NoLimit := e0.mod.nolimit.keeps fun b o e => (e0.bs b o e).1
  have kinds : ∀ y ∈ ps.zip us, (defScope st).names.lookup y.1 = some .local ∨ ((defScope st).names.lookup y.1 = some .cell ∧ ((cellsFrom (s.heap.objs.size + 1) (defScope st).names []).lookup y.1).isSome = true) := fun ⟨n, v⟩ hy => by
    rcases S.par n (List.of_mem_zip hy).1 with z | z
    · exact .inl z
    · exact .inr ⟨z, PySem.W.cellsFrom_some _ _ _ (.inl z)⟩
  refine codeAny_call_function hr.depth (KX _ _ lk) rfl S.co S.gen rfl (PySem.W.codeRec_of KX hcd) (hb _ _ _ _ ?_)
  refine wpAny_newFunctionEnv_cells S.kind kinds fun env he s1 x1 => ?_
  subst he
  refine ⟨lim.keeps x1.toInCall.keep, codeAny_func ?_⟩
  obtain ⟨t, ht, hq⟩ := body cdv A outer s H vs Q E p (hr.deeper _) q
  have I : Inv (cxH CX0 P w K mg base N qual (defScope st) f cdv A outer s H E p) [] (L2.start N vs) H s1 := inv_startH S pin e0 hl r x1
  refine wpAny_mono (ht.nox.run [] s1 (L2.start N vs) H _ I hq) (fun fl s' hs => ?_) fun e s' hs => hs
  match fl, hs with
  | .ret u, ⟨v, _, H', J, rv, z⟩ => exact ⟨v, H', J.os, J.bare, J.base, J.hok, rv, z⟩
  | .next, ⟨_, H', J, z⟩ => exact ⟨V.non, H', J.os, J.bare, J.base, J.hok, rfl, z⟩
  | .brk, ⟨_, _, _, z⟩ => exact z.elim
  | .cont, ⟨_, _, _, z⟩ => exact z.elim
end
section
variable {X : Cx} {CX : CXT} {k : Nat} {f : Addr} {fd : FuncData} {ps : List Str} {sp : Addr × Obj → Sp} {E : XK} {x : Str} {q pos : Pos} {e : Expr} {es : List Expr} {t : TA} {p : Addr × Obj}
theorem pe_callE (F : FnE X.prog X.w X.K X.mg X.base CX k f fd ps sp) (hr : RoomH k X.A) (hp : p ∈ X.pn) (hg : Gl X x) (hm : X.mg x = some (.ref f)) (hk : PySem.W.keepIn X.K (.ref f) = true) (hb : Binds X.K fd ps []) (hx : Passes CX X E)
    (ha : PA X (e :: es) t) (n1 : (x == ("__debug__" : Str)) = false := by decide) (n2 : starEach (e :: es) X.env = (false, eval e X.env) :: starEach es X.env := by rfl)
    (n3 : (backTo pos (starEach es X.env)).any (·.1) = false := by rfl) : PE X (.Call (.Name x q) (e :: es) [] pos) (tCall (sp p) [] E t) := by
  refine ⟨fun pins s σ H Q I q0 => wpAny_Call_Name_kw (ld_glob I hg hm (PySem.W.callWith_K (h₀ := X.base) I.ok.mod.kin hk (thn (ha.run pos pins s σ H _ I q0) fun us s1 ⟨vs, H1, I1, r, q⟩ => ⟨I1.kIn, ?_⟩) n2 n3) n1)⟩
  have q : sp p (vs ++ []) H1 Q E := q
  rw [List.append_nil] at q
  have l2 : (us ++ []).length = ps.length := by
    rw [List.append_nil]
    exact r.length.symm.trans (F.many _ _ _ _ _ q)
  have b := hb s1 us I1.kIn l2
  rw [List.append_nil] at b
  have P1 := I1.pin p (List.mem_append_left _ hp)
  have pin : PinOk X.stack H1 s1 p := ⟨P1.1, P1.2.1, fun hm => (List.mem_cons.mp (I1.stkSub p.1 hm)).elim P1.2.2.1 P1.2.2.2.1, P1.2.2.2.2⟩
  refine wpAny_call (codeAny_mono (F.runs X.A X.stack s1 H1 ⟨us, []⟩ us vs Q E p hr pin I1.env0 b r q) fun res s' z => ?_)
  match res, z with
  | .error err, z => exact hx pins σ H1 s1 err s' I1 z
  | .ok (.ret u), z => exact I1.after z
  | .ok .next, z => exact z.elim
  | .ok .brk, z => exact z.elim
  | .ok .cont, z => exact z.elim
end
/-! ### e.f of the exception in hand, whatever its class -/
def exFields : List Str := ["code", "given", "at", "path", "name", "word", "layer", "start", "goal", "limit", "line", "subject", "most"]
/-- a class of errors whose fields are its instances' own -/
structure OwnX (K : PySem.W.Frag) (C : Addr) : Prop where
  xf : XfC K C
  no : ∀ f ∈ exFields, PySem.W.findIn K (.ref C) f = some none
def ownXB (K : PySem.W.Frag) (C : Addr) : Bool := xfB K C && exFields.all fun f => decide (PySem.W.findIn K (.ref C) f = some none)
theorem ownX_of {K : PySem.W.Frag} {C : Addr} (h : ownXB K C = true) : OwnX K C := by
  obtain ⟨h1, h2⟩ := Bool.and_eq_true_iff.mp h
  exact ⟨xfB_ok h1, fun f hf => of_decide_eq_true (List.all_eq_true.mp h2 f hf)⟩
def tXp (K : PySem.W.Frag) (p : Addr × Obj) (f : Str) (te : TE) : TE := fun σ H Q => te σ H fun x H1 => x = .ref p.1 ∧ ∃ (C dd : Addr) (fs : List (Str × V)) (v : V), p.2.cls = .ref C ∧ OwnX K C ∧ p.2.dict = some dd ∧ (∃ vs, p.2.data = .fields vs) ∧
  H1 dd = some (.xd fs) ∧ fs.lookup f = some v ∧ Q v H1
theorem pe_xp {X : Cx} {p : Addr × Obj} {e : Expr} {te : TE} {pos : Pos} {n : Str} (hp : p ∈ X.pn) (hn : n ∈ exFields) (he : PE X e te) (hb : attributeBase e n X.env (eval e X.env) = eval e X.env := by rfl) : PE X (.Attribute e n pos) (tXp X.K p n te) := by
  refine ⟨fun pins s σ H Q I h => attr_of hb (thn (he.run pins s σ H _ I h) fun u s1 hh => ?_)⟩
  obtain ⟨x, H1, I1, rx, ex, C, dd, fs, v, ec, T, ed, ⟨vs, hd⟩, ea, l, q⟩ := hh
  subst ex
  obtain rfl : u = Value.ref p.1 := rx
  obtain ⟨ha, _⟩ := I1.pin p (List.mem_append_left _ hp)
  obtain ⟨mA, hns, hr⟩ := (show ObjOk X.prog X.w H1 s1.heap dd (.xd fs) from I1.hok dd _ ea)
  obtain ⟨od, ho, hl⟩ := lookIn_ns hns
  obtain ⟨u, hu, ru⟩ := RelO.some_of (v := v) (o := mA n) (by rw [← l]; exact hr n)
  have J : PySem.W.InstAt s1.heap p.1 p.2 C (some od) := ⟨ha, ec, by unfold PySem.W.notCls; rw [hd] <;> rfl, by rw [ed]; exact ho⟩
  exact HandSPX.exc_get I1.kIn J T.xf.ga T.xf.gg T.xf.exC (PySem.W.findObj_own T.xf.hdC (T.no n hn) rfl (by rw [hl, hu])) (handed_of ru) ⟨v, H1, I1.tok _, ru, q⟩
end VG

set_option maxRecDepth 100000
namespace Lw
open PySem L2 VG
def topS (i : Nat) : Stmt := PySem.Challenge.pw_missingmiles_k01_errors_by_themselves.main.body.getD i (.Pass ⟨0, 0, 0, 0⟩)
abbrev s_copied : Stmt := topS 1
abbrev s_MilesError : Stmt := topS 3
abbrev s_Missing : Stmt := topS 4
abbrev s_InvalidRatio : Stmt := topS 5
abbrev s_InvalidNumber : Stmt := topS 6
abbrev s_InvalidName : Stmt := topS 7
abbrev s_DuplicateName : Stmt := topS 8
abbrev s_InvalidRow : Stmt := topS 9
abbrev s_InvalidLayer : Stmt := topS 10
abbrev s_InvalidTable : Stmt := topS 11
abbrev s_InvalidWay : Stmt := topS 12
abbrev s_InvalidPlace : Stmt := topS 13
abbrev s_InvalidPoint : Stmt := topS 14
abbrev s_InvalidForm : Stmt := topS 15
abbrev s_InvalidStep : Stmt := topS 16
abbrev s_UnlikeEnds : Stmt := topS 17
abbrev s_InvalidText : Stmt := topS 18
abbrev s_InvalidFact : Stmt := topS 19
abbrev s_UnlikeScripts : Stmt := topS 20
abbrev s_UnlikeWorlds : Stmt := topS 21
abbrev s_HasTests : Stmt := topS 22
abbrev s_NoWorld : Stmt := topS 23
abbrev s_InvalidCommand : Stmt := topS 24
abbrev s_InvalidLimit : Stmt := topS 25
abbrev s_Full : Stmt := topS 26
abbrev s_InvalidPage : Stmt := topS 27
abbrev s_TooMany : Stmt := topS 28
abbrev s_UnknownName : Stmt := topS 29
abbrev s_UnknownScript : Stmt := topS 30
abbrev s_NothingLeft : Stmt := topS 31
abbrev sSource : Stmt := topS 33
abbrev sDraw : Stmt := topS 34
abbrev sOf : Stmt := topS 35
abbrev sSame : Stmt := topS 36
abbrev s__law_fields : Stmt := topS 37
abbrev s__law_first_classes : Stmt := topS 38
abbrev s__law_last_classes : Stmt := topS 39
abbrev sLaw : Stmt := topS 40
/-! ### the source of draws -/
def srcL (q : Addr) (i c seed n : Int) : List V := [.ref q, .int i, .int c, .int seed, .int n]
structure Src (H : Hp) (p q : Addr) (cells : List Int) : Prop where
  ex : ∃ i c seed n : Int, H p = some (.lst (srcL q i c seed n)) ∧ 0 ≤ i ∧ 0 ≤ c
  cs : H q = some (.lst (cells.map V.int))
  few : cells.length ≤ 63
  ne : p ≠ q
/-- all but p is as it was -/
def But (p : Addr) (H H' : Hp) : Prop := ∀ b, b ≠ p → H' b = H b
theorem But.refl (p : Addr) (H : Hp) : But p H H := fun _ _ => rfl
theorem But.trans {p : Addr} {H H1 H2 : Hp} (a : But p H H1) (b : But p H1 H2) : But p H H2 := fun c n => (b c n).trans (a c n)
theorem But.upd {p : Addr} {H : Hp} {o : HO} : But p H (upd H p o) := fun _ n => upd_ne n
def spSource (K : PySem.W.Frag) : Sp := fun vs H Q _ => ∃ (a : Addr) (ns : List Int), vs = [.ref a] ∧ SqL K H a (ns.map V.int) ∧ ns.length ≤ 63 ∧
  ∀ (p q : Addr) (H' : Hp), H p = none → H q = none → Same H H' → Src H' p q ns → Q (.ref p) H'
def spDraw : Sp := fun vs H Q _ => ∃ (p q : Addr) (cells : List Int) (m : Int), vs = [.ref p, .int m] ∧ Src H p q cells ∧ 0 < m ∧ m < 2 ^ 100 ∧
  ∀ (r : Int) (H' : Hp), 0 ≤ r → r < m → Src H' p q cells → But p H H' → Q (.int r) H'
/-- what the law's helpers ask of the names of the top -/
structure Nm (mg : Str → Option Value) : Prop where
  int : mg "int" = none
  len : mg "len" = none
  list : mg "list" = none
  repr : mg "repr" = none
section
variable {P : Program} {w : World} {K : PySem.W.Frag} {mg : Str → Option Value} {base : Heap}
theorem scSource : FnScope ["_law_script", "_law_seed", "_law_cell"] ["_law_script"] (defScope sSource) := ⟨rfl, rfl, rfl, by decide +kernel, rfl, by decide +kernel, by decide +kernel⟩
theorem scDraw : FnScope ["_law_src", "_law_many", "_law_cell", "_law_digit", "_law_root", "_law_grown"] ["_law_src", "_law_many"] (defScope sDraw) := ⟨rfl, rfl, rfl, by decide +kernel, rfl, by decide +kernel, by decide +kernel⟩
theorem ok_draw {f : Addr} {fd : FuncData} (F : Fun K "_law_draw" "_law_draw" sDraw f fd) (T : Nm mg) : FnOk P w K mg base CX0 1 f fd ["_law_src", "_law_many"] spDraw := by
  refine F.ok scDraw (fun vs H Q E h => ?_) (fun cdv A outer s H vs Q E hr h => ?_)
  · obtain ⟨p, q, cells, m, rfl, _⟩ := h
    rfl
  · obtain ⟨p, q, cells, m, rfl, ⟨⟨i, c, seed, n, hp, hi, hc⟩, hq, hfew, hne⟩, hm0, hm1, k⟩ := h
    have nd := scDraw.nd
    refine ⟨_, C8.pss_cut (ps_if (PW.pt (pw_and (pt_cmpR op_lt (pe_ix ix_list (pv 0) pe_int fun _ _ => rfl) (pv 1) (nomark _))
          (pw_and1 (pt_cmpR op_lt (pe_ix ix_list (pv 0) pe_int fun _ _ => rfl) (pe_callB call_len_seq (by rfl) T.len PySem.boot_len (pa_cons (pe_ix ix_list (pv 0) pe_int fun _ _ => rfl) pa_nil)) (nomark _)))))
        (pss_cons (ps_set (i := 2) nd rfl (Or.inl rfl) (pe_ix ix_list (pe_ix ix_list (pv 0) pe_int fun _ _ => rfl) (pe_ix ix_list (pv 0) pe_int fun _ _ => rfl) fun _ _ => rfl))
        (pss_cons (ps_asg (pe_op op_add (pe_ix ix_list (pv 0) pe_int fun _ _ => rfl) pe_int) (pg_sub (pv 0) pe_int set_list))
        (pss_cons (ps_asg (pe_op op_mod (pe_callTy call_int1 (by rfl) T.int (by decide +kernel) (pa_cons (pe_op op_add (pe_op op_add (pe_op op_mul (pe_ix ix_list (pv 0) pe_int fun _ _ => rfl) pe_int)
            (pe_op op_mod (pe_callTy call_int1 (by rfl) T.int (by decide +kernel) (pa_cons (pv 2) pa_nil)) pe_int)) pe_int) pa_nil)) pe_int) (pg_sub (pv 0) pe_int set_list))
        (pss_one (ps_asg (pe_ifExp (pt_cmpR op_ge (pv 2) (pe_op op_pow pe_int pe_int) (nomark _)) (pv 2) pe_int) (pg_sub (pv 0) pe_int set_list)))))) pss_nil)
      (pss_cons (ps_if (pt_cmpR op_ge (pe_ix ix_list (pv 0) pe_int fun _ _ => rfl) (pv 1) (nomark _))
        (pss_cons (ps_set (i := 3) nd rfl (Or.inl rfl) (pe_op op_mod (pe_callTy call_int1 (by rfl) T.int (by decide +kernel) (pa_cons (pe_ix ix_list (pv 0) pe_int fun _ _ => rfl) pa_nil)) (pv 1)))
        (pss_cons (ps_asg (pe_op op_fdivW (pe_ix ix_list (pv 0) pe_int fun _ _ => rfl) (pv 1)) (pg_sub (pv 0) pe_int set_list))
        (pss_one (ps_ret (pv 3))))) pss_nil)
      (pss_cons (ps_asg (pe_op op_add (pe_ix ix_list (pv 0) pe_int fun _ _ => rfl) pe_int) (pg_sub (pv 0) pe_int set_list))
      (C8.pss_cut (ps_set (i := 4) nd rfl (Or.inl rfl) (pe_op op_mod (pe_callTy call_int1 (by rfl) T.int (by decide +kernel) (pa_cons (pe_op op_add (pe_ix ix_list (pv 0) pe_int fun _ _ => rfl)
          (pe_op op_mul (pe_ix ix_list (pv 0) pe_int fun _ _ => rfl) pe_int)) pa_nil)) pe_int))
      (pss_cons (ps_set (i := 5) nd rfl (Or.inl rfl) (pe_op op_mul (pe_op op_mod (pe_callTy call_int1 (by rfl) T.int (by decide +kernel) (pa_cons (pe_op op_mul (pv 4) (pv 4)) pa_nil)) pe_int)
          (pe_op op_add (pe_op op_mod (pe_callTy call_int1 (by rfl) T.int (by decide +kernel) (pa_cons (pv 4) pa_nil)) pe_int) pe_int)))
      (pss_cons (ps_asg (pe_op op_mod (pe_callTy call_int1 (by rfl) T.int (by decide +kernel) (pa_cons (pe_op op_add (pe_op op_add (pv 5) (pe_op op_mul pe_int (pv 4))) pe_int) pa_nil)) pe_int) (pg_sub (pv 0) pe_int set_list))
      (pss_one (ps_ret (pe_op op_mod (pe_callTy call_int1 (by rfl) T.int (by decide +kernel) (pa_cons (pe_op op_add (pe_op op_fdiv (pe_ix ix_list (pv 0) pe_int fun _ _ => rfl) pe_int)
          (pe_op op_mul (pe_op op_mod (pe_callTy call_int1 (by rfl) T.int (by decide +kernel) (pa_cons (pe_ix ix_list (pv 0) pe_int fun _ _ => rfl) pa_nil)) pe_int) pe_int)) pa_nil)) (pv 1))))))))), ?_⟩
    -- behind the first if the source is as it may be
    refine ⟨fun σ H1 => ∃ cell, σ = [some (.ref p), some (.int m), cell, none, none, none] ∧ Src H1 p q cells ∧ But p H H1, ?_, ?_⟩
    · refine ⟨_, rfl, _, _, _, _, rfl, rfl, SqL.of hp, rfl, _, rfl, _, _, rfl, rfl, _, rfl, ?_⟩
      refine ite2 (fun hlt => ?_) (fun _ => iteF ⟨_, rfl, ⟨⟨i, c, seed, n, hp, hi, hc⟩, hq, hfew, hne⟩, But.refl _ _⟩)
      refine ⟨_, rfl, _, _, _, _, rfl, rfl, SqL.of hp, rfl, _, rfl, _, _, _, _, rfl, rfl, SqL.of hp, rfl, q, _, rfl, .inl (SqL.of hq), _, _, rfl, rfl, _, rfl, ?_⟩
      refine ite2 (fun hlt2 => ?_) (fun _ => ⟨_, rfl, ⟨⟨i, c, seed, n, hp, hi, hc⟩, hq, hfew, hne⟩, But.refl _ _⟩)
      have hlt2 : i < ((cells.map V.int).length : Int) := of_decide_eq_true hlt2
      rw [List.length_map] at hlt2
      obtain ⟨j, rfl⟩ := Int.eq_ofNat_of_zero_le hi
      have hj : j < cells.length := by omega
      have hcell : (cells.map V.int)[j]? = some (V.int cells[j]) := by rw [List.getElem?_map, List.getElem?_eq_getElem hj]; rfl
      have hqp : ∀ {H' : Hp}, But p H H' → H' q = some (.lst (cells.map V.int)) := fun b => (b q hne.symm).trans hq
      refine ⟨_, rfl, _, _, _, _, rfl, rfl, SqL.of hp, rfl, _, rfl, _, _, _, _, rfl, rfl, SqL.of hp, rfl, q, _, _, _, rfl, rfl, SqL.of hq, atI_nat hcell, ?_⟩
      -- _law_src[1] = _law_src[1] + 1
      refine ⟨_, rfl, _, _, _, _, rfl, rfl, SqL.of hp, rfl, _, _, rfl, rfl, _, rfl, p, _, _, _, rfl, rfl, hp, rfl, ?_⟩
      -- _law_src[3] = ..
      refine ⟨_, rfl, _, _, _, _, rfl, rfl, SqL.of upd_same, rfl, _, _, rfl, rfl, .inr ⟨by decide, by decide⟩, _, rfl, .inl ⟨_, rfl, _, _, rfl, rfl, (by show (0 : Int) < 2147483323; decide), _, _, rfl, rfl, _, _, rfl, rfl, .inl ⟨_, rfl, _, _, rfl, rfl, (by show (0 : Int) < 2147483549; decide), _, rfl, p, _, _, _, rfl, rfl, upd_same, rfl, ?_⟩⟩⟩
      -- _law_src[2] = ..
      refine ⟨_, rfl, _, _, rfl, rfl, ⟨by decide, by decide, by decide⟩, _, _, rfl, rfl, _, rfl, ?_⟩
      refine ite2 (fun hge => ?_) (fun _ => ?_)
      · refine ⟨_, rfl, _, rfl, p, _, _, _, rfl, rfl, upd_same, rfl, ⟨_, rfl, ⟨⟨_, _, _, _, upd_same, by omega, ?_⟩, ?_, hfew, hne⟩, ?_⟩⟩
        · have z := of_decide_eq_true hge
          exact Int.le_trans (by decide) z
        · exact hqp (But.trans (But.trans But.upd But.upd) But.upd)
        · exact But.trans (But.trans But.upd But.upd) But.upd
      · exact ⟨_, rfl, p, _, _, _, rfl, rfl, upd_same, rfl, ⟨_, rfl, ⟨⟨_, _, _, _, upd_same, by omega, Int.le_refl _⟩, hqp (But.trans (But.trans But.upd But.upd) But.upd), hfew, hne⟩, But.trans (But.trans But.upd But.upd) But.upd⟩⟩
    · rintro σ H1 ⟨cell, rfl, ⟨⟨i, c, seed, n, hp, hi, hc⟩, hq, _, _⟩, hB⟩
      -- if _law_src[2] >= _law_many
      refine ⟨_, rfl, _, _, _, _, rfl, rfl, SqL.of hp, rfl, _, rfl, _, _, rfl, rfl, _, rfl, ?_⟩
      refine ite2 (fun _ => ?_) (fun _ => ?_)
      · refine ⟨_, rfl, _, _, _, _, rfl, rfl, SqL.of hp, rfl, .inl ⟨_, rfl, _, rfl, _, _, rfl, rfl, hm0, ?_⟩⟩
        refine ⟨_, rfl, _, _, _, _, rfl, rfl, SqL.of hp, rfl, _, rfl, _, _, rfl, rfl, wide_div hm0 (b := 100) (by omega) (by decide) (by decide), _, rfl, p, _, _, _, rfl, rfl, hp, rfl, ?_⟩
        exact ⟨_, rfl, k _ _ (Int.emod_nonneg _ (by omega)) (Int.emod_lt_of_pos _ hm0) ⟨⟨_, _, _, _, upd_same, hi, Int.ediv_nonneg hc (Int.le_of_lt hm0)⟩, (upd_ne hne.symm).trans hq, hfew, hne⟩ (But.trans hB But.upd)⟩
      · -- _law_src[4] = _law_src[4] + 1
        refine ⟨_, rfl, _, _, _, _, rfl, rfl, SqL.of hp, rfl, _, _, rfl, rfl, _, rfl, p, _, _, _, rfl, rfl, hp, rfl, ?_⟩
        -- _law_root
        refine ⟨fun σ H2 => ∃ root : Int, 0 ≤ root ∧ root < 2147483629 ∧ σ = [some (.ref p), some (.int m), cell, none, some (.int root), none] ∧ H2 = upd H1 p (.lst (srcL q i c seed (n + 1))), ?_, ?_⟩
        · refine ⟨_, rfl, _, _, _, _, rfl, rfl, SqL.of upd_same, rfl, _, rfl, _, _, _, _, rfl, rfl, SqL.of upd_same, rfl, _, _, rfl, rfl, .inr ⟨by decide, by decide⟩, _, _, rfl, rfl, .inl ⟨_, rfl, _, _, rfl, rfl, (by show (0 : Int) < 2147483629; decide), ?_⟩⟩
          exact ⟨_, Int.emod_nonneg _ (by decide), Int.emod_lt_of_pos _ (by decide), rfl, rfl⟩
        · rintro σ H2 ⟨root, r0, r1, rfl, rfl⟩
          -- _law_grown
          refine ⟨_, rfl, _, rfl, _, _, rfl, rfl, .inl ⟨by omega, by omega⟩, .inl ⟨_, rfl, _, _, rfl, rfl, (by show (0 : Int) < 2147483399; decide), ?_⟩⟩
          refine ⟨_, rfl, .inl ⟨_, rfl, _, _, rfl, rfl, (by show (0 : Int) < 39989; decide), _, _, rfl, rfl, _, _, rfl, rfl, .inl ⟨?_, ?_⟩, ?_⟩⟩
          · exact Int.lt_of_lt_of_le (by decide) (Int.emod_nonneg _ (by decide))
          · exact Int.lt_of_lt_of_le (Int.emod_lt_of_pos _ (by decide)) (by decide)
          -- _law_src[3]
          refine ⟨_, rfl, _, rfl, _, _, rfl, rfl, .inl ⟨by decide, by decide⟩, _, _, rfl, rfl, _, _, rfl, rfl, .inl ⟨_, rfl, _, _, rfl, rfl, (by show (0 : Int) < 2147483549; decide), _, rfl, p, _, _, _, rfl, rfl, upd_same, rfl, ?_⟩⟩
          -- return
          refine ⟨_, rfl, _, _, _, _, rfl, rfl, SqL.of upd_same, rfl, _, _, rfl, rfl, ⟨by decide, by decide⟩, _, rfl, _, _, _, _, rfl, rfl, SqL.of upd_same, rfl, .inl ⟨_, rfl, _, _, rfl, rfl, (by show (0 : Int) < 8521; decide), _, _, rfl, rfl, .inr ⟨by decide, by decide⟩, _, _, rfl, rfl, .inl ⟨_, rfl, _, rfl, _, _, rfl, rfl, hm0, ?_⟩⟩⟩
          exact k _ _ (Int.emod_nonneg _ (by omega)) (Int.emod_lt_of_pos _ hm0) ⟨⟨_, _, _, _, upd_same, hi, hc⟩, by rw [upd_ne hne.symm, upd_ne hne.symm]; exact hq, hfew, hne⟩ (But.trans hB (But.trans But.upd But.upd))
theorem ok_source {f : Addr} {fd : FuncData} (F : Fun K "_law_source" "_law_source" sSource f fd) (T : Nm mg) : FnOk P w K mg base CX0 1 f fd ["_law_script"] (spSource K) := by
  refine F.ok scSource (fun vs H Q E h => ?_) (fun cdv A outer s H vs Q E hr h => ?_)
  · obtain ⟨a, ns, rfl, _⟩ := h
    rfl
  · obtain ⟨a, ns, rfl, hS, hl, k⟩ := h
    have nd := scSource.nd
    have cut : cutV (ns.map V.int) none (some 63) = ns.map V.int := by
      unfold cutV HT.sIx
      rw [List.drop_zero, List.length_map]
      refine List.take_of_length_le ?_
      rw [List.length_map]
      show ns.length ≤ min 63 ns.length - 0
      omega
    refine ⟨_, pss_cons (ps_set (i := 1) nd rfl (Or.inl rfl) pe_int)
      (pss_cons (ps_for PassesOwn.never rfl (pi_list (pe_slice sl_list (pv 0) po_none (po_some pe_int))) (pg_name (i := 2) nd rfl (Or.inl rfl))
        (pss_one (ps_set (i := 1) nd rfl (Or.inl rfl) (pe_op op_mod (pe_callTy call_int1 (by rfl) T.int (by decide +kernel) (pa_cons (pe_op op_add (pe_op op_add (pe_op op_mul (pv 1) pe_int)
            (pe_op op_mod (pe_callTy call_int1 (by rfl) T.int (by decide +kernel) (pa_cons (pv 2) pa_nil)) pe_int)) pe_int) pa_nil)) pe_int))))
      (pss_one (ps_ret (pe_lst (pa_cons (pe_callTy call_list_of (by rfl) T.list (by decide +kernel) (pa_cons (pe_slice sl_list (pv 0) po_none (po_some pe_int)) pa_nil))
        (pa_cons pe_int (pa_cons pe_int (pa_cons (pv 1) (pa_cons pe_int pa_nil))))))))), ?_⟩
    refine ⟨_, rfl, _, rfl, a, _, rfl, hS, fun u hu => ?_⟩
    rw [cut]
    have sm : Same H (upd H u (.lst (ns.map V.int))) := fun b o e => by rw [upd_ne (ne_of_none e hu)]; exact e
    refine ⟨u, rfl, ⟨_, SqL.of upd_same⟩, for_list (K := K) (a := u) (xs := ns.map V.int) (fun i σ H2 => ∃ (sd : Int) (v : Option V), σ = [some (.ref a), some (.int sd), v] ∧ H2 = upd H u (.lst (ns.map V.int)))
      ⟨_, _, rfl, rfl⟩ (fun i σ H2 _ ⟨_, _, _, e⟩ => e ▸ SqL.of upd_same) ?_ ?_⟩
    · rintro i y σ H2 hi ⟨sd, v, rfl, rfl⟩
      obtain ⟨z, rfl⟩ : ∃ z, y = V.int z := by
        rw [List.getElem?_map] at hi
        obtain ⟨z, _, e⟩ := Option.map_eq_some_iff.mp hi
        exact ⟨z, e.symm⟩
      exact ⟨_, rfl, _, _, rfl, rfl, .inr ⟨by decide, by decide⟩, _, rfl, .inl ⟨_, rfl, _, _, rfl, rfl, (by show (0 : Int) < 2147483353; decide), _, _, rfl, rfl, _, _, rfl, rfl, .inl ⟨_, rfl, _, _, rfl, rfl, (by show (0 : Int) < 2147483587; decide), _, _, rfl, rfl⟩⟩⟩
    · rintro σ H2 ⟨sd, v, rfl, rfl⟩
      refine ⟨_, rfl, _, rfl, a, _, rfl, sm.seq hS, fun u2 hu2 => ?_⟩
      rw [cut]
      refine ⟨u2, _, rfl, .inl (SqL.of upd_same), fun u3 hu3 => ⟨_, rfl, by show 5 ≤ sizeLine; decide, fun p hp => ?_⟩⟩
      have n3 : u3 ≠ p := fun z => by rw [z, upd_same] at hp; cases hp
      have sm2 : Same H (upd (upd (upd H u (.lst (ns.map V.int))) u2 (.lst (ns.map V.int))) u3 (.lst (ns.map V.int))) := fun b o e => by
        rw [upd_ne (ne_of_none (by rw [upd_ne (ne_of_none (sm b o e) hu2)]; exact sm b o e) hu3), upd_ne (ne_of_none (sm b o e) hu2)]
        exact sm b o e
      have sm3 : Same H (upd (upd (upd H u (.lst (ns.map V.int))) u2 (.lst (ns.map V.int))) u3 (.lst (ns.map V.int))) := sm2
      refine k p u3 _ (sm2.free hp) ?_ (fun b o e => ?_) ⟨⟨0, 0, sd, 0, upd_same, Int.le_refl _, Int.le_refl _⟩, ?_, hl, n3.symm⟩
      · have e1 : Same H (upd (upd H u (.lst (ns.map V.int))) u2 (.lst (ns.map V.int))) := fun b o e => by
          rw [upd_ne (ne_of_none (sm b o e) hu2)]
          exact sm b o e
        exact e1.free hu3
      · rw [upd_ne (ne_of_none (sm2 b o e) hp)]
        exact sm2 b o e
      · rw [upd_ne n3, upd_same]
/-! ### one of some things; are two data shown alike -/
def spOf (K : PySem.W.Frag) : Sp := fun vs H Q _ => ∃ (p q : Addr) (cells : List Int) (sv : V), vs = [.ref p, sv] ∧ Src H p q cells ∧
  ((∃ (a : Addr) (xs : List V), sv = .ref a ∧ (∀ H', But p H H' → SqL K H' a xs ∨ SqT K H' a xs) ∧ 0 < xs.length ∧ xs.length < 1000000 ∧
      ∀ (i : Nat) (x : V) (H' : Hp), xs[i]? = some x → Src H' p q cells → But p H H' → Q x H') ∨
    ∃ z : Str, sv = .str z ∧ 0 < z.length ∧ z.length < 1000000 ∧ ∀ (c : Nat) (H' : Hp), c ∈ z.cps.toList → Src H' p q cells → But p H H' → Q (.str ⟨#[c]⟩) H')
theorem scOf : FnScope ["_law_src", "_law_some"] ["_law_src", "_law_some"] (defScope sOf) := ⟨rfl, rfl, rfl, by decide +kernel, rfl, by decide +kernel, by decide +kernel⟩
theorem big : (1000000 : Nat) ≤ sizeLine := by decide
theorem ok_of {f fD : Addr} {fd fdD : FuncData} (F : Fun K "_law_of" "_law_of" sOf f fd) (T : Nm mg) (FD : Fun K "_law_draw" "_law_draw" sDraw fD fdD) (mD : mg "_law_draw" = some (.ref fD)) (bD : Binds K fdD ["_law_src", "_law_many"] []) :
    FnOk P w K mg base CX0 2 f fd ["_law_src", "_law_some"] (spOf K) := by
  have GD : FnOk P w K mg base CX0 1 fD fdD ["_law_src", "_law_many"] spDraw := ok_draw FD T
  refine F.ok scOf (fun vs H Q E h => ?_) (fun cdv A outer s H vs Q E hr h => ?_)
  · obtain ⟨p, q, cells, sv, rfl, _⟩ := h
    rfl
  · obtain ⟨p, q, cells, sv, rfl, hS, h⟩ := h
    refine ⟨_, pss_one (ps_ret (pe_ix ix_seq (pv 1) (pe_call GD hr (by rfl) mD FD.kp bD .nil pass0 (pa_cons (pv 0) (pa_cons (pe_callB call_len (by rfl) T.len PySem.boot_len (pa_cons (pv 1) pa_nil)) pa_nil))) fun _ _ => rfl)), ?_⟩
    rcases h with ⟨a, xs, rfl, hx, h0, h1, k⟩ | ⟨z, rfl, h0, h1, k⟩
    · refine ⟨_, rfl, _, rfl, _, rfl, _, xs.length, rfl, ?_, p, q, cells, _, rfl, hS, by omega, by omega, fun r H' r0 r1 S' B' => ?_⟩
      · rcases hx H (But.refl _ _) with z | z
        · exact .inl ⟨_, z, rfl⟩
        · exact .inr ⟨_, z, rfl⟩
      · obtain ⟨j, rfl⟩ := Int.eq_ofNat_of_zero_le r0
        have hj : j < xs.length := by omega
        have e : xs[j]? = some xs[j] := List.getElem?_eq_getElem hj
        rcases hx H' B' with z | z
        · exact .inl ⟨a, xs, _, _, rfl, rfl, z, atI_nat e, k j _ H' e S' B'⟩
        · exact .inr (.inl ⟨a, xs, _, _, rfl, rfl, z, atI_nat e, k j _ H' e S' B'⟩)
    · refine ⟨_, rfl, _, rfl, _, rfl, _, z.length, rfl, ⟨Nat.le_trans (Nat.le_of_lt h1) big, rfl⟩, p, q, cells, _, rfl, hS, by omega, by omega, fun r H' r0 r1 S' B' => ?_⟩
      obtain ⟨j, rfl⟩ := Int.eq_ofNat_of_zero_le r0
      have hl : z.cps.toList.length = z.length := by simp [Str.length]
      have hj : j < z.cps.toList.length := by omega
      have e : z.cps.toList[j]? = some z.cps.toList[j] := List.getElem?_eq_getElem hj
      exact .inr (.inr ⟨z, _, _, rfl, rfl, Nat.le_trans (Nat.le_of_lt h1) big, atI_nat e, k _ H' (List.getElem_mem hj) S' B'⟩)
def spSame (K : PySem.W.Frag) : Sp := fun vs H Q _ => ∃ (x y : V) (d e : PyData), vs = [x, y] ∧ Dp K H x d ∧ Dp K H y e ∧ Sm d ∧ Sm e ∧ Q (.bl (decide (d.shown = e.shown))) H
theorem scSame : FnScope ["_law_found", "_law_due"] ["_law_found", "_law_due"] (defScope sSame) := ⟨rfl, rfl, rfl, by decide +kernel, rfl, by decide +kernel, by decide +kernel⟩
theorem ok_same {f : Addr} {fd : FuncData} (F : Fun K "_law_same" "_law_same" sSame f fd) (T : Nm mg) : FnG P w K mg base CX0 1 f fd ["_law_found", "_law_due"] (spSame K) := by
  refine okG F scSame (fun vs H Q E h => ?_) (fun cdv A outer s H vs Q E hG hr h => ?_)
  · obtain ⟨x, y, d, e, rfl, _⟩ := h
    rfl
  · obtain ⟨x, y, d, e, rfl, hx, hy, sd, se, k⟩ := h
    refine ⟨_, pss_one (ps_ret (pe_cmpR op_eq (pe_callB (call_repr hG hr.units) (by rfl) T.repr (by decide +kernel) (pa_cons (pv 0) pa_nil)) (pe_callB (call_repr hG hr.units) (by rfl) T.repr (by decide +kernel) (pa_cons (pv 1) pa_nil)) (nomark _))), ?_⟩
    refine ⟨_, rfl, _, d, rfl, hx, sd, _, rfl, _, e, rfl, hy, se, rfl, ?_⟩
    have q : decide (V.str d.shown = V.str e.shown) = decide (d.shown = e.shown) := by
      by_cases z : d.shown = e.shown
      · rw [z, decide_eq_true rfl, decide_eq_true rfl]
      · rw [decide_eq_false z, decide_eq_false fun y => z (V.str.inj y)]
    show Q (.bl (decide (V.str d.shown = V.str e.shown))) H
    rw [q]
    exact k
end
end Lw

set_option maxRecDepth 100000
/-! The fields of the exception in hand, by its code. -/
namespace VG
open PySem PySem.Spec PyProof.Rows L2
theorem same_upd {H : Hp} {a : Addr} {o : HO} (h : H a = none) : Same H (upd H a o) := fun b u e => by rw [upd_ne (ne_of_none e h)]; exact e
/-- nm stands in l, as `in` tells it -/
def eqIn (l : List Str) (nm : Str) : Bool := (l.map PyData.str).any fun z => PyData.eqv z (.str nm)
/-- p is an own error with the code nm and the fields fs -/
structure Caught (K : PySem.W.Frag) (H : Hp) (p : Addr × Obj) (nm : Str) (fs : List (Str × V)) : Prop where
  ex : ∃ (C dd : Addr), p.2.cls = .ref C ∧ OwnX K C ∧ p.2.dict = some dd ∧ (∃ vs, p.2.data = .fields vs) ∧ H dd = some (.xd fs)
  code : fs.lookup ("code" : Str) = some (V.str nm)
  sh : SeqAt.shaped (.str nm) = true
theorem Caught.same {K : PySem.W.Frag} {H H' : Hp} {p : Addr × Obj} {nm : Str} {fs : List (Str × V)} (e : Same H H') (c : Caught K H p nm fs) : Caught K H' p nm fs := by
  obtain ⟨⟨C, dd, h1, h2, h3, h4, h5⟩, h6, h7⟩ := c
  exact ⟨⟨C, dd, h1, h2, h3, h4, e _ _ h5⟩, h6, h7⟩
theorem Caught.get {K : PySem.W.Frag} {H : Hp} {p : Addr × Obj} {nm f : Str} {fs : List (Str × V)} {v : V} {Q : VK} (c : Caught K H p nm fs) (l : fs.lookup f = some v) (q : Q v H) :
    ∃ (C dd : Addr) (fs : List (Str × V)) (v : V), p.2.cls = .ref C ∧ OwnX K C ∧ p.2.dict = some dd ∧ (∃ vs, p.2.data = .fields vs) ∧ H dd = some (.xd fs) ∧ fs.lookup f = some v ∧ Q v H := by
  obtain ⟨⟨C, dd, h1, h2, h3, h4, h5⟩, _, _⟩ := c
  exact ⟨C, dd, fs, v, h1, h2, h3, h4, h5, l, q⟩
theorem strs_all {K : PySem.W.Frag} {H : Hp} : ∀ l : List Str, DpAll K H (l.map V.str) (l.map PyData.str)
  | [] => .nil
  | x :: l => .cons (.str x) (strs_all l)
section
variable {X : Cx} {p : Addr × Obj} {x f : Str} {i j1 j2 j3 : Nat} {l : List Str} {es fes : List Expr} {p1 p2 p3 p4 p5 p6 p7 p8 p9 : Pos}
/-- the fields ns of the exception in hand, in slot i -/
def tFlds (K : PySem.W.Frag) (p : Addr × Obj) (i : Nat) (ns : List Str) : TA := fun σ H Q => σ[i]? = some (some (.ref p.1)) ∧ ∃ (nm : Str) (fs : List (Str × V)) (ys : List V), Caught K H p nm fs ∧ ns.map (fun f => fs.lookup f) = ys.map some ∧ Q ys H
theorem pa_flds0 : PA X [] (tFlds X.K p i []) := by
  refine ⟨fun pos pins s σ H Q I h => ?_⟩
  obtain ⟨_, nm, fs, ys, _, e, q⟩ := h
  have e2 : ys = [] := by
    cases ys with
    | nil => rfl
    | cons y ys => cases e
  subst e2
  exact pa_nil.run pos pins s σ H Q I q
theorem pa_flds {ns : List Str} (hp : p ∈ X.pn) (hv : PE X (.Name x p1) (tVar i)) (hf : f ∈ exFields) (ha : PA X es (tFlds X.K p i ns)) : PA X (.Attribute (.Name x p1) f p2 :: es) (tFlds X.K p i (f :: ns)) := by
  refine ⟨fun pos pins s σ H Q I h => ?_⟩
  obtain ⟨hs, nm, fs, ys, c, e, q⟩ := h
  match ys, e with
  | y :: ys, e =>
    have e1 := List.cons.inj e
    obtain ⟨C, dd, h1, h2, h3, h4, h5⟩ := c.ex
    refine (pa_cons (pe_xp hp hf hv) ha).run pos pins s σ H Q I ?_
    refine ⟨_, hs, rfl, C, dd, fs, _, h1, h2, h3, h4, h5, e1.1, ?_⟩
    exact ⟨hs, nm, fs, ys, c, e1.2, q⟩
theorem small_line {n : Nat} (h : n ≤ 1000) : n ≤ sizeLine := Nat.le_trans h (by decide)
/-- if a test of the code: return the fields ns -/
def tIfRet (K : PySem.W.Frag) (p : Addr × Obj) (i : Nat) (c : Str → Bool) (ns : List Str) : TS := fun D σ H => σ[i]? = some (some (.ref p.1)) ∧ ∃ (nm : Str) (fs : List (Str × V)), Caught K H p nm fs ∧
  (c nm = true → ∃ ys, ns.map (fun f => fs.lookup f) = ys.map some ∧ ∀ T H', Same H H' → SqT K H' T ys → D.rt (.ref T) H') ∧ (c nm = false → ∀ H', Same H H' → D.nx σ H')
theorem flds_end {K : PySem.W.Frag} {σ : L2.St} {H H1 : Hp} {ns : List Str} {nm : Str} {fs : List (Str × V)} {R : VK} (hl : ns.length ≤ 1000) (hs : σ[i]? = some (some (.ref p.1))) (sm : Same H H1) (c : Caught K H p nm fs)
    (h : ∃ ys, ns.map (fun f => fs.lookup f) = ys.map some ∧ ∀ T H', Same H H' → SqT K H' T ys → R (.ref T) H') : tTup (tFlds K p i ns) σ H1 R := by
  obtain ⟨ys, e, k⟩ := h
  have hz : ys.length = ns.length := by
    have z := congrArg List.length e
    rw [List.length_map, List.length_map] at z
    exact z.symm
  exact ⟨hs, nm, fs, ys, c.same sm, e, small_line (by omega), fun T hT => k T _ (sm.trans (same_upd hT)) (SqT.of upd_same)⟩
theorem ps_inRet {ns : List Str} (hp : p ∈ X.pn) (hu : X.A.units + 65 < cLine) (hl : l.length ≤ 1000) (hn : ns.length ≤ 1000) (sh : SeqAt.shaped (.tuple (l.map PyData.str)) = true) (hv : PE X (.Name x p1) (tVar i))
    (ha : PA X es (fun _ H Q => Q (l.map V.str) H)) (he : PA X fes (tFlds X.K p i ns)) :
    PS X (.If (.Compare (.Attribute (.Name x p1) "code" p3) [.In] [.Tuple es j1 p4] p5) [.Return (some (.Tuple fes j2 p7)) p8] [] p9) (tIfRet X.K p i (eqIn l) ns) := by
  refine ⟨fun pins s σ H D I h => (ps_if (pt_cmpR (op_inT hu) (pe_xp hp (by decide) hv) (pe_tup ha) rfl) (pss_one (ps_ret (pe_tup he))) pss_nil).run pins s σ H D I ?_⟩
  obtain ⟨hs, nm, fs, c, hy, hn⟩ := h
  have hz : (l.map V.str).length ≤ sizeLine := by rw [List.length_map]; exact small_line hl
  refine ⟨_, hs, rfl, c.get c.code ⟨hz, fun T hT => ?_⟩⟩
  have sm := same_upd (o := .tup (l.map V.str)) hT
  refine ⟨.str nm, l.map PyData.str, .str nm, .tup (SqT.of upd_same) (strs_all l), c.sh, sh, eqIn l nm, rfl, ?_⟩
  cases e : eqIn l nm with
  | true => exact iteT (flds_end (by assumption) hs sm c (hy e))
  | false => exact iteF (hn e _ sm)
theorem ps_eqRet {ns : List Str} {z : Str} (hp : p ∈ X.pn) (hn : ns.length ≤ 1000) (hv : PE X (.Name x p1) (tVar i)) (he : PA X fes (tFlds X.K p i ns)) :
    PS X (.If (.Compare (.Attribute (.Name x p1) "code" p3) [.Eq] [.Constant (.str z) j1 p4] p5) [.Return (some (.Tuple fes j2 p7)) p8] [] p9) (tIfRet X.K p i (fun nm => decide (nm = z)) ns) := by
  refine ⟨fun pins s σ H D I h => (ps_if (pt_cmpR op_eq (pe_xp hp (by decide) hv) pe_str rfl) (pss_one (ps_ret (pe_tup he))) pss_nil).run pins s σ H D I ?_⟩
  obtain ⟨hs, nm, fs, c, hy, hn⟩ := h
  obtain ⟨C, dd, h1, h2, h3, h4, h5⟩ := c.ex
  refine ⟨_, hs, rfl, C, dd, fs, _, h1, h2, h3, h4, h5, c.code, ?_⟩
  refine ⟨rfl, decide (nm = z), congrArg V.bl ?_, ?_⟩
  · by_cases y : nm = z
    · subst y
      rw [decide_eq_true rfl, decide_eq_true rfl]
    · rw [decide_eq_false y, decide_eq_false fun q => y (V.str.inj q)]
  cases e : decide (nm = z) with
  | true => exact iteT (flds_end (by assumption) hs (Same.refl H) c (hy e))
  | false => exact iteF (hn e _ (Same.refl H))
/-- return the fields ns if the code is z else () -/
def tEndRet (K : PySem.W.Frag) (p : Addr × Obj) (i : Nat) (z : Str) (ns : List Str) : TS := fun D σ H => σ[i]? = some (some (.ref p.1)) ∧ ∃ (nm : Str) (fs : List (Str × V)), Caught K H p nm fs ∧
  ∃ ys, (if decide (nm = z) = true then ns else []).map (fun f => fs.lookup f) = ys.map some ∧ ∀ T H', Same H H' → SqT K H' T ys → D.rt (.ref T) H'
theorem ps_endRet {ns : List Str} {z : Str} (hp : p ∈ X.pn) (hn : ns.length ≤ 1000) (hv : PE X (.Name x p1) (tVar i)) (he : PA X fes (tFlds X.K p i ns)) :
    PS X (.Return (some (.IfExp (.Compare (.Attribute (.Name x p1) "code" p3) [.Eq] [.Constant (.str z) j1 p4] p5) (.Tuple fes j2 p7) (.Tuple [] j3 p2) p6)) p8) (tEndRet X.K p i z ns) := by
  refine ⟨fun pins s σ H D I h => (ps_ret (pe_ifExp (pt_cmpR op_eq (pe_xp hp (by decide) hv) pe_str rfl) (pe_tup he) (pe_tup (pa_flds0 (p := p) (i := i))))).run pins s σ H D I ?_⟩
  obtain ⟨hs, nm, fs, c, h⟩ := h
  obtain ⟨C, dd, h1, h2, h3, h4, h5⟩ := c.ex
  refine ⟨_, hs, rfl, C, dd, fs, _, h1, h2, h3, h4, h5, c.code, ?_⟩
  refine ⟨rfl, decide (nm = z), congrArg V.bl ?_, ?_⟩
  · by_cases y : nm = z
    · subst y
      rw [decide_eq_true rfl, decide_eq_true rfl]
    · rw [decide_eq_false y, decide_eq_false fun q => y (V.str.inj q)]
  cases e : decide (nm = z) with
  | true =>
    rw [e, if_pos rfl] at h
    exact iteT (flds_end (by assumption) hs (Same.refl H) c h)
  | false =>
    rw [e, if_neg Bool.false_ne_true] at h
    exact iteF (flds_end (by decide) hs (Same.refl H) c h)
end
end VG

set_option maxRecDepth 100000
/-! ask(lambda: ..): ('', what it gives), or (code,) + the fields of the error that it raises. -/
namespace VG
open PySem PySem.Spec PyProof.Rows L2 LamX
open L2H (RoomH roomH_of)
/-- the fields of an error with the code nm, as the law tells them -/
def fieldsOf (nm : Str) : List Str :=
  if eqIn ["InvalidRatio", "InvalidNumber", "InvalidName", "InvalidLayer", "InvalidPlace", "InvalidPoint", "InvalidForm", "InvalidLimit"] nm = true then ["given"]
  else if eqIn ["InvalidRow", "InvalidFact", "InvalidCommand"] nm = true then ["at"]
  else if eqIn ["InvalidStep", "UnlikeEnds"] nm = true then ["path"]
  else if eqIn ["DuplicateName", "UnknownName"] nm = true then ["name"]
  else if eqIn ["InvalidText", "UnknownScript"] nm = true then ["word"]
  else if decide (nm = "InvalidTable") = true then ["layer"]
  else if decide (nm = "InvalidWay") = true then ["layer", "start", "goal"]
  else if decide (nm = "Full") = true then ["limit"]
  else if decide (nm = "InvalidPage") = true then ["line"]
  else if decide (nm = "TooMany") = true then ["subject", "most"] else []
/-- the fields of the error p: of its code's names, in a tuple -/
def spFields (K : PySem.W.Frag) : Addr × Obj → Sp := fun p vs H Q _ => vs = [.ref p.1] ∧ ∃ (nm : Str) (fs : List (Str × V)) (ys : List V), Caught K H p nm fs ∧ (fieldsOf nm).map (fun f => fs.lookup f) = ys.map some ∧ ∀ T H', Same H H' → SqT K H' T ys → Q (.ref T) H'
/-- an own error of class cls, its dict d -/
structure Err (K : PySem.W.Frag) (H : Hp) (cls : Value) (d : Option Addr) (nm : Str) (fs : List (Str × V)) : Prop where
  ex : ∃ (C dd : Addr), cls = .ref C ∧ OwnX K C ∧ d = some dd ∧ H dd = some (.xd fs)
  code : fs.lookup ("code" : Str) = some (V.str nm)
  sh : SeqAt.shaped (.str nm) = true
theorem Err.caught {K : PySem.W.Frag} {H : Hp} {cls : Value} {d : Option Addr} {nm : Str} {fs : List (Str × V)} {a : Addr} {oe : Obj} (e : Err K H cls d nm fs) (hz : Zc cls d oe) (hf : ∃ vs, oe.data = .fields vs) : Caught K H (a, oe) nm fs := by
  obtain ⟨⟨C, dd, h1, h2, h3, h4⟩, h5, h6⟩ := e
  exact ⟨⟨C, dd, hz.1.trans h1, h2, hz.2.trans h3, hf, h4⟩, h5, h6⟩
/-- what ask wishes of an error of the body, cs the classes that it catches -/
def askX (K : PySem.W.Frag) (cs : List Value) (Q : VK) : XK := fun cls d H => PySem.W.exmAny K cls cs = some true ∧ ∃ (nm : Str) (fs : List (Str × V)) (ys : List V), Err K H cls d nm fs ∧ (fieldsOf nm).map (fun f => fs.lookup f) = ys.map some ∧ ys.length ≤ 1000 ∧
  ∀ T H', Same H H' → SqT K H' T (.str nm :: ys) → Q (.ref T) H'
def askQ (Q : VK) : VK := fun x H1 => [V.str "", x].length ≤ sizeLine ∧ ∀ T, H1 T = none → Q (.ref T) (upd H1 T (.tup [.str "", x]))
def TAsk (K : PySem.W.Frag) (cs : List Value) : (XK → Hp → VK → Prop) → Hp → VK → Prop := fun tl H Q => tl (askX K cs Q) H (askQ Q)
section
variable {X : Cx}
/-- the suite: return (e.code,) + fields(e) -/
def tSuite (K : PySem.W.Frag) (i : Nat) : Addr → Value → Option Addr → TS := fun a cls d D σ H => σ[i]? = some (some (.ref a)) ∧ ∃ (nm : Str) (fs : List (Str × V)) (ys : List V), Err K H cls d nm fs ∧ (fieldsOf nm).map (fun f => fs.lookup f) = ys.map some ∧ ys.length ≤ 1000 ∧
  ∀ T H', Same H H' → SqT K H' T (.str nm :: ys) → D.rt (.ref T) H'
theorem ps_suite {a : Addr} {oe : Obj} {cls : Value} {d : Option Addr} {pn : List (Addr × Obj)} {i k : Nat} {e x : Str} {f : Addr} {fd : FuncData} {ps : List Str} {p1 p2 p3 p4 p5 p6 p7 p8 : Pos} {j : Nat}
    (F : FnE X.prog X.w X.K X.mg X.base CX0 k f fd ps (spFields X.K)) (hr : RoomH k X.A) (hg : (X.suite a ((a, oe) :: pn)).env.scope.names.lookup x = some .globalImplicit) (hm : X.mg x = some (.ref f)) (hk : PySem.W.keepIn X.K (.ref f) = true) (hb : L2.Binds X.K fd ps [])
    (hz : Zc cls d oe) (hf : ∃ vs, oe.data = .fields vs) (hv : ∀ p, PE (X.suite a ((a, oe) :: pn)) (.Name e p) (tVar i)) (n1 : (x == ("__debug__" : Str)) = false) :
    PS (X.suite a ((a, oe) :: pn)) (.Return (some (.BinOp (.Tuple [.Attribute (.Name e p1) "code" p2] j p3) .Add (.Call (.Name x p4) [.Name e p5] [] p6) p7)) p8) (tSuite X.K i a cls d) := by
  have hp : (a, oe) ∈ (X.suite a ((a, oe) :: pn)).pn := List.mem_cons_self
  refine ⟨fun pins s σ H D I h => (ps_ret (pe_op op_catT (pe_tup (pa_cons (pe_xp hp (by decide) (hv p1)) pa_nil)) (pe_callE (E := fun _ _ _ => False) (X := X.suite a ((a, oe) :: pn)) F ⟨hr.dp, hr.un⟩ hp hg hm hk hb (fun _ _ _ _ _ _ _ h => h.elim) (pa_cons (hv p5) pa_nil) n1))).run pins s σ H D I ?_⟩
  obtain ⟨hs, nm, fs, ys, er, el, hy, q⟩ := h
  have c := er.caught (a := a) hz hf
  obtain ⟨C, dd, h1, h2, h3, h4, h5⟩ := c.ex
  refine ⟨_, hs, rfl, C, dd, fs, _, h1, h2, h3, h4, h5, c.code, small_line (by show 1 ≤ 1000; decide), fun T hT => ?_⟩
  have sm := same_upd (o := .tup [.str nm]) hT
  refine ⟨_, hs, rfl, nm, fs, ys, c.same sm, el, fun T2 H2 sm2 ht => ?_⟩
  have st : SqT X.K H2 T [.str nm] := Same.tup sm2 (SqT.of upd_same)
  refine ⟨T, T2, [.str nm], ys, rfl, rfl, st, ht, List.cons_ne_nil _ _, Nat.le_trans (Nat.add_le_add_left hy 1) (by decide), fun e => ?_, fun _ T3 hT3 => ?_⟩
  · subst e
    exact q T H2 (sm.trans sm2) st
  · exact q T3 _ ((sm.trans sm2).trans (same_upd hT3)) (SqT.of upd_same)
theorem exm_imp {K : PySem.W.Frag} {cls : Value} {cs : List Value} {Q : VK} {d : Option Addr} {H : Hp} (h : askX K cs Q cls d H) : PySem.W.exmAny K cls cs = some true := h.1
theorem ask_gives {Ng : List Str} {x a e y q xA xB xC : Str} {sg : Scope} {g f : Addr} {fd : FuncData} {ps : List Str} {cA cB cC cdg : Value} {j1 j2 j3 j4 k : Nat} {p1 p2 p3 p4 p5 p6 p7 p8 p9 p10 p11 p12 p13 p14 p15 p16 p17 p18 p19 : Pos}
    (F : FnE X.prog X.w X.K X.mg X.base CX0 k f fd ps (spFields X.K)) (hr : Room (k + 1) X.A) (nd : Ng.Nodup) (h1 : Ng[1]? = some e) (hl : sg.names.lookup e = some .local)
    (gA : sg.names.lookup xA = some .globalImplicit) (gB : sg.names.lookup xB = some .globalImplicit) (gC : sg.names.lookup xC = some .globalImplicit) (gy : sg.names.lookup y = some .globalImplicit)
    (mA : X.mg xA = some cA) (mB : X.mg xB = some cB) (mC : X.mg xC = some cC) (my : X.mg y = some (.ref f)) (hk : PySem.W.keepIn X.K (.ref f) = true) (hb : L2.Binds X.K fd ps [])
    (dA : (xA == ("__debug__" : Str)) = false) (dB : (xB == ("__debug__" : Str)) = false) (dC : (xC == ("__debug__" : Str)) = false) (dy : (y == ("__debug__" : Str)) = false) (de : (e == ("__debug__" : Str)) = false) (dc : (e == ("__classdict__" : Str)) = false)
    (h0 : ∀ f : Addr, (L2.start Ng [V.ref f])[0]? = some (some (V.ref f))) (h2 : 1 < Ng.length) :
    GivesTo X Ng x sg g cdg [.Try [.Return (some (.Tuple [.Constant (.str "") j1 p1, .Call (.Name a p2) [] [] p3] j2 p4)) p5]
      [.ExceptHandler (some (.Tuple [.Name xA p6, .Name xB p7, .Name xC p8] j3 p9)) (some e) [.Return (some (.BinOp (.Tuple [.Attribute (.Name e p10) "code" p11] j4 p12) .Add (.Call (.Name y p13) [.Name e p14] [] p15) p16)) p17] p18] [] [] p19] a q (TAsk X.K [cA, cB, cC]) := by
  intro f' c' s H Q tl act hc h
  have room : RoomH k (cxOf C8.CX0 X.prog X.w X.K X.mg X.base Ng x sg g cdg X.A X.stack s H C8.E0).nox.A := roomH_of (hr.deeper _)
  refine ⟨_, pss_one (ps_try_as3 (X := (cxOf C8.CX0 X.prog X.w X.K X.mg X.base Ng x sg g cdg X.A X.stack s H C8.E0).nox) (c1 := cA) (c2 := cB) (c3 := cC) (i := 1)
      (tb := fun W D σ H => ∃ Ech : XK, (∀ cls d σ' H', Ech cls d H' → W cls d σ' H') ∧ σ[0]? = some (some (.ref f')) ∧ H c' = some (CodeO c' q) ∧ tl Ech H (askQ D.rt))
      (ts := tSuite X.K 1) rfl rfl nd h1 hl ⟨gA, dA, .inl mA⟩ ⟨gB, dB, .inl mB⟩ ⟨gC, dC, .inl mC⟩ (fun W pn xe tk _ => ?_) (fun b oe cls d pn hz hf => ?_)), ?_⟩
  · refine ⟨fun pins s' σ H' D I h' => ?_⟩
    obtain ⟨Ech, hW, e1, e2, e3⟩ := h'
    have hp := act W pn xe Ech p2 p3 tk hW
    have hq := pss_one (st := .Return (some (.Tuple [.Constant (.str "") j1 p1, .Call (.Name a p2) [] [] p3] j2 p4)) p5) (ps_ret (pe_tup (pa_cons pe_str (pa_cons hp pa_nil))))
    exact hq.run pins s' σ H' D I ⟨e1, e2, e3⟩
  · refine pss_one (ps_suite F room ?_ my hk hb hz hf (fun p => pe_var h1 (.inl hl) de dc) dy)
    exact gy
  · refine ⟨askX X.K [cA, cB, cC] Q, fun cls d σ' H' z => ?_, h0 f', hc, h⟩
    obtain ⟨z1, nm, fs, ys, z2, z3, z4, z5⟩ := z
    refine ⟨z1, fun b hb hn => ⟨?_, nm, fs, ys, z2, z3, z4, z5⟩⟩
    have hn : σ'.length = Ng.length := hn
    rw [List.getElem?_set_self (by omega)]
end
end VG

set_option maxRecDepth 100000
/-! A lambda with one parameter that bears a default, handed to a def that calls it without arguments. -/
namespace VG
open PySem PySem.Spec PyProof.Rows L2 LamX
/-! ### its function object -/
abbrev dlFn (qual : Str) (params : Arguments) (body : Expr) (scope : Scope) (cl : List (Str × Addr)) (pm cdv ctv dv : Value) : FuncData := { PySem.W.kla_fn "<lambda>" qual params body scope cl pm cdv ctv with defaults := dv }
abbrev dlObj (qual : Str) (params : Arguments) (body : Expr) (scope : Scope) (cl : List (Str × Addr)) (pm cdv ctv dv : Value) : Obj := { cls := .type "function", data := .func (dlFn qual params body scope cl pm cdv ctv dv) }
abbrev oneTup (u : Value) : Obj := { cls := .type "tuple", data := .seq [u].toArray }
section
variable {M : Model} {A : Around} {E : Value → Shared → Prop} {s : Shared} {Q : Value → Shared → Prop}
/-- the closure's tuple, if there is one -/
theorem clo_tup {clos : List (Str × Addr)} {k : Value → Sem Value} (h : ∀ (ctv : Value) (h1 : Heap), (∀ b o, s.heap.get? b = some o → h1.get? b = some o) → s.heap.objs.size ≤ h1.objs.size → wpAny M A (k ctv) Q E { s with heap := h1 }) :
    wpAny M A (do
      let t ← if clos.isEmpty then pure .none else newTextTuple ((clos.mergeSort fun a b => a.1.cps.toList ≤ b.1.cps.toList).map (.ref ·.2))
      k t) Q E s := by
  match clos with
  | [] => exact wpAny_bind (wpAny_pure (h .none s.heap (fun _ _ e => e) (Nat.le_refl _)))
  | q :: r =>
    refine wpAny_bind (wpAny_newTextTuple (h _ _ (fun b o e => Heap.get?_push_of_some _ e) ?_))
    rw [Heap.size_push]
    omega
variable {qual : Str} {params : Arguments} {body : Expr} {scope : Scope} {env : Env} {c P : Addr} {ps : Array Value} {pos : Pos} {line : Nat} {mg : Str → Option Value} {clos : List (Str × Addr)} {dv : Value}
/-- it is made: its code object stands in the table -/
theorem dl_hit {cv : Value} (hcl : closureFor scope env = pure clos) (eg : env.globals = mainGlobals) (gm : s.heap.Ns mainGlobals mg) (ec : env.code = .ref c) (C : PySem.W.CodeHd s.heap c P) (tab : s.heap.get? P = some { cls := .none, data := .fields ps }) (ok : TriplesOk ps.toList)
    (hit : codeAmong pos ps.toList = some cv) (bl : s.heap.BuiltinsAt mg P)
    (h : ∀ (ctv : Value) (h1 : Heap) (tk : Tok), (∀ b o, s.heap.get? b = some o → h1.get? b = some o) → s.heap.objs.size ≤ h1.objs.size →
      Q (.ref h1.objs.size) { s with heap := h1.push (dlObj qual params body scope clos ((mg "__name__").getD .none) cv ctv dv), toks := tk }) :
    wpAny M A (makeTail "<lambda>" qual params (.expr body) scope env dv .none none pos line) Q E s := by
  obtain ⟨bm, ob, y1, y2, _, _, y5, y6, y7, y8⟩ := bl
  unfold makeTail
  rw [hcl, eg]
  refine wpAny_bind (wpAny_pure (clo_tup fun ctv h1 kp sz => ?_))
  refine wpAny_bind (wpAny_functionCode_hit ec ((C.keeps kp).code (kp _ _ tab) ok) hit ?_)
  refine wpAny_bind (wpAny_builtinsFor (gm.keeps kp) y1 y2 (kp _ _ y5) y6 y7 y8 ?_)
  exact wpAny_bind (wpAny_nsGet (gm.keeps kp) (wpAny_bind (wpAny_pure (wpAny_newObj_type (h ctv h1 s.toks kp sz) (by size_fits)))))
/-- it is made: its code object is new -/
theorem dl_new (hcl : closureFor scope env = pure clos) (eg : env.globals = mainGlobals) (gm : s.heap.Ns mainGlobals mg) (ec : env.code = .ref c) (C : PySem.W.CodeHd s.heap c P) (tab : s.heap.get? P = some { cls := .none, data := .fields ps }) (ok : TriplesOk ps.toList)
    (miss : codeAmong pos ps.toList = none) (gP : mainGlobals ≠ P) (bl : s.heap.BuiltinsAt mg P)
    (h : ∀ (c' : Addr) (ctv : Value) (h1 : Heap) (tk : Tok), Heap.ExtBut P s.heap h1 → s.heap.objs.size ≤ c' → c' < h1.objs.size → h1.CodeRec (.ref c') qual → h1.get? P = some { cls := .none, data := .fields (ps ++ #[rawInt pos.line, rawInt pos.col, .ref c']) } →
      Q (.ref h1.objs.size) { s with heap := h1.push (dlObj qual params body scope clos ((mg "__name__").getD .none) (.ref c') ctv dv), toks := tk }) :
    wpAny M A (makeTail "<lambda>" qual params (.expr body) scope env dv .none none pos line) Q E s := by
  obtain ⟨bm, ob, y1, y2, _, y4, y5, y6, y7, y8⟩ := bl
  unfold makeTail
  rw [hcl, eg]
  refine wpAny_bind (wpAny_pure (clo_tup fun ctv h1 kp sz => ?_))
  refine wpAny_bind (wpAny_functionCodeX ec ((C.keeps kp).code (kp _ _ tab) ok) ((C.keeps kp).tab (kp _ _ tab)) miss fun c' h2 tk ext ge lt _ rec there _ => ?_)
  have gm2 := (gm.keeps kp).extBut ext gP
  refine wpAny_bind (wpAny_builtinsFor gm2 y1 y2 (ext _ _ y4 (kp _ _ y5)) y6 y7 y8 ?_)
  refine wpAny_bind (wpAny_nsGet gm2 (wpAny_bind (wpAny_pure (wpAny_newObj_type (h c' ctv h2 tk (fun b o n e => ext b o n (kp b o e)) (Nat.le_trans sz ge) lt rec there.2) (by size_fits)))))
end
/-! ### made, in the layer -/
section
variable {X : Cx} {pins : List (Addr × Obj)} {σ : L2.St} {H : Hp} {s : Shared}
/-- an object that nothing tracks and no frame is -/
structure Loose (X : Cx) (H : Hp) (s : Shared) (a : Addr) (o : Obj) : Prop where
  get : s.heap.get? a = some o
  free : H a = none
  nofr : a ∉ frs X.stack
theorem new_nofr (I : Inv X pins σ H s) {a : Addr} (h : s.heap.objs.size ≤ a) : a ∉ frs X.stack := fun z => by
  rcases List.mem_cons.mp (I.stkSub _ z) with e | e
  · have h1 := I.lt
    rw [← e] at h1
    exact Nat.lt_irrefl _ (Nat.lt_of_lt_of_le h1 h)
  · exact I.nofs h e
/-- ps's tables and all else, a new code object in one of them -/
theorem tabs_new {T : List (Addr × Str)} {P c' : Addr} {q : Str} {ps : Array Value} {p0 : Pos} (hT : Tabs T H) (hP : H P = some (.tbl ps)) (ok : TriplesOk ps.toList) (at' : ∀ (pos : Pos) (cv : Value), codeAmong pos ps.toList = some cv → ∃ c, cv = .ref c ∧ H c = some (CodeO c q))
    (nC : H c' = none) (hu : ∀ p ∈ T, p.1 = P → p.2 = q) :
    ExtN H (upd (upd H P (.tbl (ps ++ #[rawInt p0.line, rawInt p0.col, .ref c']))) c' (CodeO c' q)) ∧ Tabs T (upd (upd H P (.tbl (ps ++ #[rawInt p0.line, rawInt p0.col, .ref c']))) c' (CodeO c' q)) := by
  have e1 : ExtN H (upd (upd H P (.tbl (ps ++ #[rawInt p0.line, rawInt p0.col, .ref c']))) c' (CodeO c' q)) := fun b o e n => by
    have nP : b ≠ P := fun z => by
      rw [z, hP] at e
      exact n ps (Option.some.inj e).symm
    rw [upd_ne (ne_of_none e nC), upd_ne nP]
    exact e
  have el : (ps ++ #[rawInt p0.line, rawInt p0.col, .ref c']).toList = ps.toList ++ [rawInt p0.line, rawInt p0.col, .ref c'] := by simp
  refine ⟨e1, fun p hp => ?_⟩
  by_cases hb : p.1 = P
  · rw [hu p hp hb, hb]
    refine ⟨_, by rw [upd_ne (ne_of_none hP nC), upd_same], by rw [el]; exact PySem.TriplesOk_snoc _ _ _ _ ok, fun p' cv hcv => ?_⟩
    rw [el] at hcv
    rcases among_app _ ok hcv with z | z
    · obtain ⟨c0, z1, z2⟩ := at' p' cv z
      exact ⟨c0, z1, e1 _ _ z2 codeO_ne⟩
    · exact ⟨c', z, upd_same⟩
  · obtain ⟨qs, a1, a2, a3⟩ := hT p hp
    refine ⟨qs, by rw [upd_ne (ne_of_none a1 nC), upd_ne hb]; exact a1, a2, fun p' cv hcv => ?_⟩
    obtain ⟨c0, z1, z2⟩ := a3 p' cv hcv
    exact ⟨c0, z1, e1 _ _ z2 codeO_ne⟩
/-- lambda a=z: body, evaluated -/
theorem dl_make {T : List (Addr × Str)} {c P : Addr} {params : Arguments} {body : Expr} {scope : Scope} {pos p0 : Pos} {z : Int} {j : Nat} {E : Value → Shared → Prop} {Q : Value → Shared → Prop} (I : Inv X pins σ H s) (TB : TabB X.base X.mg c P) (hcode : X.env.code = .ref c)
    (hm : (P, X.env.qual ++ "<lambda>") ∈ T) (hu : ∀ p ∈ T, p.1 = P → p.2 = X.env.qual ++ "<lambda>") (hT : Tabs T H) (hdef : defaultsOf params X.env = ([eval (.Constant (.int z) j p0) X.env], [])) (hkw : params.kwonlyargs = [])
    (hfree : ∀ y ∈ scope.names, y.2 = .free → ∃ c, X.env.cells.lookup y.1 = some c) (hE : ∀ e s', X.xe e s' → E e s')
    (h : ∀ (f D c' : Addr) (pm ctv u : Value) (H1 : Hp) (s' : Shared), Inv X pins σ H1 s' → ExtN H H1 → Tabs T H1 → RelV (.int z) u → Loose X H1 s' D (oneTup u) →
      Loose X H1 s' f (dlObj (X.env.qual ++ "<lambda>") params body scope (cloFrom X.env.cells scope.names []) pm (.ref c') ctv (.ref D)) → H1 c' = some (CodeO c' (X.env.qual ++ "<lambda>")) → Q (.ref f) s') :
    wpAny (model X.prog X.w) X.A (eval (.Lambda params body scope pos) X.env) Q E s := by
  rw [arm_eval_Lambda, hdef]
  show wpAny (model X.prog X.w) X.A (do let dv ← evalAll [eval (.Constant (.int z) j p0) X.env]; let kdv ← holding dv (evalAllOpt []); makeFunction "<lambda>" (X.env.qual ++ "<lambda>") params (.expr body) scope X.env dv kdv [] pos pos.line) Q E s
  refine wpAny_bind ?_
  show wpAny (model X.prog X.w) X.A (do let v ← eval (.Constant (.int z) j p0) X.env; return v :: (← holding [v] (evalAll []))) _ E s
  refine wpAny_bind (wpAny_mono ((pe_int (X := X)).run pins s σ H (fun v H1 => v = .int z ∧ H1 = H) I ⟨rfl, rfl⟩) (fun u s1 hh => ?_) hE)
  obtain ⟨v, H1, I1, rv, ev, eH⟩ := hh
  subst ev
  rw [eH] at I1
  refine wpAny_bind (wpAny_holding (wpAny_pure (wpAny_pure ?_)))
  refine wpAny_bind (wpAny_holding (wpAny_pure ?_))
  rw [makeFunction_eq, hkw]
  simp only [List.zip_nil_left, List.filterMap_nil, List.isEmpty_nil, List.isEmpty_cons, if_true, Bool.false_eq_true, if_false, pure_bind]
  refine wpAny_bind (wpAny_newTextTuple ?_)
  have D0 : s1.heap.objs.size ≤ s1.heap.objs.size := Nat.le_refl _
  have I2 : Inv X pins σ H { s1 with heap := s1.heap.push (oneTup u), toks := s1.toks } := I1.kept fun b o e => Heap.get?_push_of_some _ e
  obtain ⟨ps, hP, ok, at'⟩ := hT _ hm
  have gP : (s1.heap.push (oneTup u)).get? P = some { cls := .none, data := .fields ps } := I2.hok P _ hP
  have bl : (s1.heap.push (oneTup u)).BuiltinsAt X.mg P := TB.bm.keeps I2.bk
  have dGet : (s1.heap.push (oneTup u)).get? s1.heap.objs.size = some (oneTup u) := Heap.get?_push_size _ rfl
  have dFree : H s1.heap.objs.size = none := I1.hok.fresh (Nat.le_refl _)
  have dNofr : s1.heap.objs.size ∉ frs X.stack := new_nofr I1 (Nat.le_refl _)
  have nDP : s1.heap.objs.size ≠ P := fun z => by
    rw [z, hP] at dFree
    cases dFree
  have sz1 : (s1.heap.push (oneTup u)).objs.size = s1.heap.objs.size + 1 := Heap.size_push _ _
  cases e : codeAmong pos ps.toList with
  | some cv =>
    obtain ⟨c', rfl, hco⟩ := at' pos cv e
    refine dl_hit (mg := X.mg) (c := c) (P := P) (ps := ps) (closure_ok hfree) I2.ok.glob (I2.mod.glob.keeps I2.bk) hcode (TB.code.keeps I2.bk) gP ok e bl fun ctv h1 tk kp sz => ?_
    have sz : (s1.heap.push (oneTup u)).objs.size ≤ h1.objs.size := sz
    have kp : ∀ b o, (s1.heap.push (oneTup u)).get? b = some o → h1.get? b = some o := kp
    have I3 : Inv X pins σ H { s1 with heap := h1.push (dlObj (X.env.qual ++ "<lambda>") params body scope (cloFrom X.env.cells scope.names []) ((X.mg "__name__").getD .none) (.ref c') ctv (.ref s1.heap.objs.size)), toks := tk } := I2.kept fun b o q => Heap.get?_push_of_some _ (kp b o q)
    exact h h1.objs.size s1.heap.objs.size c' _ ctv u H _ I3 (ExtN.refl H) hT rv ⟨Heap.get?_push_of_some _ (kp _ _ dGet), dFree, dNofr⟩ ⟨Heap.get?_push_size _ rfl, I1.hok.fresh (by omega), new_nofr I1 (by omega)⟩ hco
  | none =>
    refine dl_new (mg := X.mg) (c := c) (P := P) (ps := ps) (closure_ok hfree) I2.ok.glob (I2.mod.glob.keeps I2.bk) hcode (TB.code.keeps I2.bk) gP ok e TB.gP bl fun c' ctv h1 tk ext ge lt rec tab => ?_
    obtain ⟨c2, oc, vs, t, e2, hoc, hd, hv⟩ := rec
    cases e2
    have ge : (s1.heap.push (oneTup u)).objs.size ≤ c' := ge
    have ext : ∀ b o, b ≠ P → (s1.heap.push (oneTup u)).get? b = some o → h1.get? b = some o := ext
    have nC : H c' = none := I1.hok.fresh (by omega)
    have I3 := inv_table (t' := tk) (more := #[rawInt pos.line, rawInt pos.col, .ref c']) (h' := h1.push (dlObj (X.env.qual ++ "<lambda>") params body scope (cloFrom X.env.cells scope.names []) ((X.mg "__name__").getD .none) (.ref c') ctv (.ref s1.heap.objs.size))) I2 hP
      (fun b o hb q => Heap.get?_push_of_some _ (ext b o hb q)) (Heap.get?_push_of_some _ tab) ge ⟨oc, vs, t, Heap.get?_push_of_some _ hoc, hd, hv⟩
    obtain ⟨x1, x2⟩ := tabs_new (p0 := pos) (c' := c') hT hP ok at' nC hu
    have off : ∀ b, s1.heap.objs.size ≤ b → b ≠ c' → b ≠ P → upd (upd H P (.tbl (ps ++ #[rawInt pos.line, rawInt pos.col, .ref c']))) c' (CodeO c' (X.env.qual ++ "<lambda>")) b = none := fun b hb n1 n2 => by
      rw [upd_ne n1, upd_ne n2]
      exact I1.hok.fresh hb
    have hPlt : @LT.lt Nat _ P s1.heap.objs.size := I1.hok.lt hP
    have lt : @LT.lt Nat _ c' h1.objs.size := lt
    have ge : @LE.le Nat _ (s1.heap.push (oneTup u)).objs.size c' := ge
    have n1 : @Ne Nat s1.heap.objs.size c' := by omega
    have n2 : @LE.le Nat _ s1.heap.objs.size h1.objs.size := by omega
    have n3 : @Ne Nat h1.objs.size c' := by omega
    have n4 : @Ne Nat h1.objs.size P := by omega
    exact h h1.objs.size s1.heap.objs.size c' _ ctv u _ _ I3 x1 x2 rv ⟨Heap.get?_push_of_some _ (ext _ _ nDP dGet), off _ (Nat.le_refl _) n1 nDP, dNofr⟩ ⟨Heap.get?_push_size _ rfl, off _ n2 n3 n4, new_nofr I1 n2⟩ upd_same
end
/-! ### its names, its call -/
/-- one name of its own, a, that the maker doesn't use; captured ones and globals -/
structure LamD (sc scope : Scope) (a : Str) (N : List Str) : Prop where
  kind : scope.kind = .function
  co : scope.isCoroutine = false
  gen : scope.isGenerator = false
  noc : ∀ y ∈ scope.names, y.2 ≠ .cell
  own : ∀ y ∈ scope.names, y.2 = .local → y.1 = a
  par : scope.names.lookup a = some .local
  out : a ∉ N
  free : ∀ y ∈ scope.names, y.2 = .free → sc.names.lookup y.1 = some .cell ∨ sc.names.lookup y.1 = some .free
def lamDB (sc scope : Scope) (a : Str) (N : List Str) : Bool :=
  decide (scope.kind = .function) && (!scope.isCoroutine && (!scope.isGenerator && (decide (scope.names.lookup a = some .local) && (!N.contains a &&
    scope.names.all fun y => !decide (y.2 = .cell) && ((!decide (y.2 = .local) || decide (y.1 = a)) && (!decide (y.2 = .free) || (decide (sc.names.lookup y.1 = some .cell) || decide (sc.names.lookup y.1 = some .free))))))))
theorem lamD_by {sc scope : Scope} {a : Str} {N : List Str} (h : lamDB sc scope a N = true) : LamD sc scope a N := by
  unfold lamDB at h
  simp only [Bool.and_eq_true, Bool.or_eq_true, Bool.not_eq_true', decide_eq_true_eq, decide_eq_false_iff_not, List.all_eq_true] at h
  obtain ⟨h1, h2, h3, h4, h5, h6⟩ := h
  refine ⟨h1, h2, h3, fun y hy => (h6 y hy).1, fun y hy e => (h6 y hy).2.1.resolve_left fun z => z e, h4, fun z => ?_, fun y hy e => (h6 y hy).2.2.resolve_left fun z => z e⟩
  rw [List.contains_iff_mem.mpr z] at h5
  cases h5
theorem LamD.has {X : Cx} {scope : Scope} {a : Str} {N : List Str} (L : LamD X.env.scope scope a N) (ok : X.Ok) : ∀ y ∈ scope.names, y.2 = .free → ∃ c, X.env.cells.lookup y.1 = some c :=
  fun y hy e => ok.has _ ((L.free y hy e).elim (fun k => .inl k) fun k => .inr k)
section
variable {X : Cx} {pins : List (Addr × Obj)} {σ : L2.St} {H HZ : Hp} {s s1 : Shared}
theorem dl_start {A : Around} {outer : List Env} {E : XK} {scope : Scope} {f c' : Addr} {a : Str} {u : Value} {h1 : Heap} {tk : Nat} (I : Inv X pins σ H s) (L : LamD X.env.scope scope a X.N) (e0 : Env0 X.prog X.w X.K X.mg X.base A outer s1 HZ) (hd : A.handled = none)
    (un : Un (frs X.stack) [] H HZ s.heap s1.heap) (hns : h1.Ns s1.heap.objs.size fun y => ([(a, u)] : List (Str × Value)).reverse.lookup y) (kp : ∀ b o, s1.heap.get? b = some o → h1.get? b = some o) :
    Inv (lamCx X A outer s1 HZ E scope f c') [] σ HZ { s1 with heap := h1, toks := tk } := by
  have caught : ∀ {y c}, (cloFrom X.env.cells scope.names []).lookup y = some c → X.env.cells.lookup y = some c := fun {y c} e => by
    rcases cloFrom_mem (PySem.mem_of_lookup e) with hm | ⟨h1, h2⟩
    · cases hm
    · obtain ⟨c1, hc⟩ := L.has I.ok _ h1 rfl
      have hc : X.env.cells.lookup y = some c1 := hc
      rw [hc] at h2
      rw [show c = c1 from h2]
      exact hc
  have looks : ∀ {y}, scope.names.lookup y = some .free → ∃ c, (cloFrom X.env.cells scope.names []).lookup y = some c := fun {y} hl => mem_lookup (cloFrom_has (cells := X.env.cells) (acc := []) (PySem.mem_of_lookup hl))
  have stays : ∀ {c : Addr} {v : Option Value}, H c = none → s.heap.IsCell c v → h1.IsCell c v := fun {c v} n ⟨o, ho, hd⟩ => by
    obtain ⟨sl, q⟩ := un.any ho n (by simp)
    exact ⟨_, kp _ _ q, hd⟩
  have noX : ∀ b : Addr, b ∉ (lamCx X A outer s1 HZ E scope f c').ex := fun b z => absurd (show b ∈ ([] : List Addr) from z) (by simp)
  have okX : (lamCx X A outer s1 HZ E scope f c').Ok := by
    refine ⟨e0.mod, L.kind, rfl, rfl, Nat.le_refl _, fun y z c h1 h2 => I.ok.inj y z c (caught h1) (caught h2), fun y hy => ?_, fun _ _ z _ => Bool.noConfusion (show false = true from z), fun _ => hd, Around.frames_deeper e0.frames, .inr ⟨rfl, rfl⟩, fun b z => absurd z (noX b), e0.bs, e0.bsz, fun b _ _ => noX b,
      fun b z => absurd z (noX b), e0.funs, e0.frf⟩
    have hy : scope.names.lookup y = some .cell ∨ scope.names.lookup y = some .free := hy
    exact hy.elim (fun hy => absurd rfl (L.noc _ (PySem.mem_of_lookup hy))) looks
  refine ⟨okX, rfl, e0.bare, Un.kept kp, ⟨_, hns, fun i y v g1 g2 g3 => ?_⟩, fun y c e => ?_, e0.hok.fresh (Nat.le_refl _), fun y c e => ?_, fun q hq => absurd (show q ∈ ([] : List (Addr × Obj)) ++ [] from hq) (by simp), e0.hok.kept kp, I.len⟩
  · have g3 : Vis scope y := g3
    rcases g3 with k | k | k
    · have e := L.own _ (PySem.mem_of_lookup k) rfl
      have e : y = a := e
      exact absurd (List.mem_of_getElem? g1) (by rw [e]; exact L.out)
    · exact absurd rfl (L.noc _ (PySem.mem_of_lookup k))
    · obtain ⟨m, hn, hl⟩ := I.loc
      have fr := L.free _ (PySem.mem_of_lookup k) rfl
      obtain ⟨w', r, q⟩ := hl i y v g1 g2 (fr.elim (fun k => .inr (.inl k)) fun k => .inr (.inr k))
      obtain ⟨c2, h2⟩ := looks k
      have c1 := caught h2
      refine ⟨w', r, .inr ⟨.inr k, c2, h2, ?_⟩⟩
      rcases q with ⟨kl, _⟩ | ⟨_, c3, e', z⟩
      · have kl : X.env.scope.names.lookup y = some .local := kl
        rcases fr with k2 | k2 <;> rw [show X.env.scope.names.lookup y = _ from k2] at kl <;> cases kl
      · rw [c1] at e'
        cases e'
        exact stays (I.freeC y _ c1) z
  · obtain ⟨w', z⟩ := I.cell y c (caught e)
    exact ⟨w', stays (I.freeC y c (caught e)) z⟩
  · obtain ⟨v, o, ho, hd⟩ := I.cell y c (caught e)
    exact un.free c o ho (I.freeC y c (caught e)) (by simp)
/-- it is called, in the def that got it -/
theorem dl_act {CXg : CXT} {Eg : XK} {Ng : List Str} {qg x : Str} {sg : Scope} {g f D c' : Addr} {cdg pm ctv u : Value} {params : Arguments} {body : Expr} {scope : Scope} {k i : Nat} {a : Str} {pn : List (Addr × Obj)} {xe : Value → Shared → Prop} {W : WX} {E : XK} {tb : TE} {p1 p2 : Pos}
    (I : Inv X pins σ H s) (L : LamD X.env.scope scope a X.N) (hf : Loose X H s f (dlObj (X.env.qual ++ "<lambda>") params body scope (cloFrom X.env.cells scope.names []) pm (.ref c') ctv (.ref D))) (hD : Loose X H s D (oneTup u))
    (hb : ∀ s2 : Shared, s2.heap.get? D = some (oneTup u) → BindsTo s2 (dlFn (X.env.qual ++ "<lambda>") params body scope (cloFrom X.env.cells scope.names []) pm (.ref c') ctv (.ref D)) ⟨[], []⟩ [(a, u)])
    (tk : Takes ((cxOf CXg X.prog X.w X.K X.mg X.base Ng qg sg g cdg X.A X.stack s H Eg).tr pn xe) W) (hW : ∀ cls d σ' H', E cls d H' → W cls d σ' H') (hr : Room (k + 1) (X.A.deeper (envOfC qg sg s.heap.objs.size g cdg)))
    (bodyOk : ∀ (A : Around) (outer : List Env) (s : Shared) (H : Hp), Room k (A.deeper (lamEnv X scope s.heap.objs.size f c')) → PE (lamCx X A outer s H E scope f c') body tb)
    (hN : Ng[i]? = some x) (hv : Vis sg x) (n1 : (x == ("__debug__" : Str)) = false := by decide) (n2 : (x == ("__classdict__" : Str)) = false := by decide) :
    PE ((cxOf CXg X.prog X.w X.K X.mg X.base Ng qg sg g cdg X.A X.stack s H Eg).tr pn xe) (.Call (.Name x p1) [] [] p2)
      (fun σZ HZ Q => σZ[i]? = some (some (.ref f)) ∧ HZ c' = some (CodeO c' (X.env.qual ++ "<lambda>")) ∧ tb σ HZ Q) := by
  refine ⟨fun pinsZ sZ σZ HZ Q IZ ⟨hs, hc, ht⟩ => wpAny_Call_Name_kw (thn ((pe_var (pos := p1) (i := i) hN hv n1 n2).run pinsZ sZ σZ HZ (fun v H1 => v = .ref f ∧ H1 = HZ) IZ ⟨.ref f, hs, rfl, rfl⟩) fun w s1 ⟨v, H1, I1, r1, ev, eH⟩ => ?_)⟩
  subst ev
  rw [eH] at I1
  obtain rfl : w = Value.ref f := r1
  have still : ∀ {b : Addr} {o : Obj}, Loose X H s b o → s1.heap.get? b = some o := fun {b o} l => I1.base.keep b o l.get l.free l.nofr (fun z => nomatch (show b ∈ ([] : List Addr) from z))
  refine PySem.W.callWith_F0 ⟨_, _, _, _, still hf⟩ ?_
  obtain ⟨⟨oc, vs, t, hoc, hdc, hvc⟩, _, _⟩ := I1.hok c' _ hc
  have run : codeAny (model X.prog X.w) (X.A.deeper (envOfC qg sg s.heap.objs.size g cdg)) (.call (.ref f) ⟨[], []⟩) (CR (L2.CX X.prog X.w) (envOfC qg sg s.heap.objs.size g cdg :: X.stack) X.prog X.w HZ s1 Q E) s1 := by
    refine PySem.W.kla_callFunE hr.depth (still hf) rfl L.co L.gen rfl ⟨c', oc, vs, t, rfl, hoc, hdc, hvc⟩ (hb s1 (still hD) _ _ _ _ ?_)
    refine wpAny_newFunctionEnv (fun y hy => L.noc y hy) (fun y hy => ?_) (fun h1 hns hsb => ⟨I1.nolimit.fresh _ hsb, ?_⟩) L.kind
    · obtain rfl := List.mem_singleton.mp hy
      exact L.par
    show codeAny _ _ (.expr body (lamEnv X scope s1.heap.objs.size f c')) _ _
    have kp : ∀ b o, s1.heap.get? b = some o → h1.get? b = some o := fun b o e => hsb.extBut b o (Nat.ne_of_lt (Heap.lt_size e)) (Heap.get?_push_of_some _ e)
    have J : Inv (lamCx X (X.A.deeper (envOfC qg sg s.heap.objs.size g cdg)) (envOfC qg sg s.heap.objs.size g cdg :: X.stack) s1 HZ E scope f c') [] σ HZ { s1 with heap := h1, toks := s1.toks + ([(a, u)] : List (Str × Value)).length } :=
      dl_start I L I1.env0 hr.hd I1.base hns kp
    refine PySem.W.kla_codeExpr (wpAny_mono ((bodyOk _ _ s1 HZ (hr.deeper _)).run [] _ _ HZ Q J ht) (fun v s' hq => ?_) fun _ _ hq => hq)
    obtain ⟨y, H', J', rv, q⟩ := hq
    exact ⟨y, H', J'.os, J'.bare, J'.base, J'.hok, rv, q⟩
  have hx : Passes (L2.CX X.prog X.w) ((cxOf CXg X.prog X.w X.K X.mg X.base Ng qg sg g cdg X.A X.stack s H Eg).tr pn xe) E := passes_call tk hW
  refine wpAny_call (codeAny_mono run fun r s' hq => ?_)
  match r, hq with
  | .error e, hq => exact hx pinsZ σZ HZ s1 e s' I1 hq
  | .ok (.ret u), hq => exact I1.after hq
  | .ok .next, hq => exact hq.elim
  | .ok .brk, hq => exact hq.elim
  | .ok .cont, hq => exact hq.elim
/-- g(lambda a=z: body) -/
theorem pe_dlcall {T : List (Addr × Str)} {TT : (XK → Hp → VK → Prop) → Hp → VK → Prop} {x y a : Str} {g c P : Addr} {k j : Nat} {z : Int} {pg : Arguments} {bg : List Stmt} {sg : Scope} {dV kV doc pm cdv ct oc : Value} {an od : Option Addr} {osl : Array (Option Value)} {Ng : List Str}
    {params : Arguments} {body : Expr} {scope : Scope} {t : XK → TE} {p p0 lpos pos : Pos} (hg : Gl X x) (hm : X.mg x = some (.ref g)) (hk : PySem.W.keepIn X.K (.ref g) = true)
    (lk : X.K.lookup g = some ⟨oc, od, .func (PySem.W.fnOf x x pg bg sg dV kV doc pm an cdv ct), osl⟩) (hcg : PySem.W.codeIn X.K cdv x = true) (hb : L2.Binds X.K (PySem.W.fnOf x x pg bg sg dV kV doc pm an cdv ct) [y] []) (Sg : FnScope Ng [y] sg) (hNg : Ng[0]? = some y) (hva : Vis sg y)
    (hG : GivesTo X Ng x sg g cdv bg y (X.env.qual ++ "<lambda>") TT)
    (TB : TabB X.base X.mg c P) (hcode : X.env.code = .ref c) (hmT : (P, X.env.qual ++ "<lambda>") ∈ T) (hu : ∀ p ∈ T, p.1 = P → p.2 = X.env.qual ++ "<lambda>") (hr : Room (k + 2) X.A) (L : LamD X.env.scope scope a X.N)
    (hdef : defaultsOf params X.env = ([eval (.Constant (.int z) j p0) X.env], [])) (hkw : params.kwonlyargs = [])
    (binds : ∀ (q : Str) (cl : List (Str × Addr)) (pm cv ctv u : Value) (D : Addr) (s2 : Shared), s2.heap.get? D = some (oneTup u) → BindsTo s2 (dlFn q params body scope cl pm cv ctv (.ref D)) ⟨[], []⟩ [(a, u)])
    (bodyOk : ∀ (A : Around) (outer : List Env) (s : Shared) (H : Hp) (E : XK) (f c' : Addr), Room k (A.deeper (lamEnv X scope s.heap.objs.size f c')) → PE (lamCx X A outer s H E scope f c') body (t E))
    (n0 : (x == ("__debug__" : Str)) = false := by decide) (n1 : (y == ("__debug__" : Str)) = false := by decide) (n2 : (y == ("__classdict__" : Str)) = false := by decide) :
    PE X (.Call (.Name x p) [.Lambda params body scope lpos] [] pos) (tLam T TT t) := by
  refine ⟨fun pins s σ H Q I ⟨hT, h⟩ => wpAny_Call_Name_kw (ld_glob I hg hm (PySem.W.callWith_K (h₀ := X.base) I.ok.mod.kin hk ?_ (by rfl) (by rfl)) n0)⟩
  show wpAny _ _ (spliced ((false, eval (.Lambda params body scope lpos) X.env) :: backTo pos (starEach [] X.env))) _ _ s
  refine Calls.spliced_cons (dl_make I TB hcode hmT hu hT hdef hkw (L.has I.ok) (fun _ _ z => z) fun f D c' pm' ctv u H1 s' I1 eN T1 ru hD hf hco => Calls.spliced_nil ⟨I1.kIn, ?_⟩)
  have run : codeAny (model X.prog X.w) X.A (.call (.ref g) ⟨[.ref f], []⟩) (CR C8.CX0 X.stack X.prog X.w H1 s' Q C8.E0) s' := by
    refine run_ofS (N := Ng) (ps := [y]) (us := [.ref f]) (vs := [.ref f]) lk hcg Sg hr I1.env0 (hb s' [.ref f] I1.kIn rfl) (.cons rfl .nil) rfl fun hr' => ?_
    obtain ⟨t', ht', hq'⟩ := hG f c' s' H1 Q (fun E H' Q' => t E σ H' Q') (fun W pn xe E p1 p2 tk hW => dl_act (i := 0) I1 L hf hD (fun s2 q => binds _ _ _ _ _ _ _ s2 q) tk hW hr' (fun A outer s H hr2 => bodyOk A outer s H E f c' hr2) hNg hva n1 n2) hco (h H1 eN T1)
    exact ⟨t', ht'.nox, hq'⟩
  refine wpAny_call (codeAny_mono run fun r s2 hq => ?_)
  match r, hq with
  | .error e, hq => exact (show False from hq).elim
  | .ok (.ret u), hq => exact I1.after hq
  | .ok .next, hq => exact hq.elim
  | .ok .brk, hq => exact hq.elim
  | .ok .cont, hq => exact hq.elim
end
end VG

set_option maxRecDepth 100000
/-! Data: their types, their sizes, data that stand on new addresses alone. -/
namespace VG
open PySem PySem.Spec PyProof.Rows L2
def tyN : PyData → String
  | .none => "NoneType"
  | .bool _ => "bool"
  | .int _ => "int"
  | .str _ => "str"
  | .list _ => "list"
  | .tuple _ => "tuple"
  | .dict _ => "dict"
theorem tyx_list {K : PySem.W.Frag} {H : Hp} {a : Addr} {xs : List V} (h : SqL K H a xs) : TyX K H (.ref a) (.type "list") := by
  rcases h with (h | ⟨o, h⟩) | ⟨o, its, n, h, c, _⟩
  · exact .base (.lst h)
  · exact .base (.frz h)
  · exact .kList h c
theorem tyx_tup {K : PySem.W.Frag} {H : Hp} {a : Addr} {xs : List V} (h : SqT K H a xs) : TyX K H (.ref a) (.type "tuple") := by
  rcases h with (h | ⟨o, h⟩) | ⟨o, its, n, h, c, _⟩
  · exact .base (.tup h)
  · exact .fTuple h
  · exact .kTuple h c
theorem Dp.tyx {K : PySem.W.Frag} {H : Hp} : ∀ {v : V} {d : PyData}, Dp K H v d → TyX K H v (.type (tyN d))
  | _, _, .non => .base .non
  | _, _, .bl b => .base (.bl b)
  | _, _, .int i => .base (.int i)
  | _, _, .str x => .base (.str x)
  | _, _, .lst h _ => tyx_list h
  | _, _, .tup h _ => tyx_tup h
/-- at most n deep, at most 1000 wide -/
def fit : Nat → PyData → Bool
  | _, .none => true
  | _, .bool _ => true
  | _, .int _ => true
  | _, .str _ => true
  | n + 1, .list ds => decide (ds.length ≤ 1000) && ds.all (fit n)
  | n + 1, .tuple ds => decide (ds.length ≤ 1000) && ds.all (fit n)
  | _, _ => false
/-- what H' has more than H -/
def newer (H H' : Hp) : Hp := fun b => match H b with | none => H' b | some _ => none
theorem newer_at {H H' : Hp} {b : Addr} (h : H b = none) : newer H H' b = H' b := by unfold newer; rw [h]
theorem newer_none {H H' : Hp} {b : Addr} {o : HO} (h : H b = some o) : newer H H' b = none := by unfold newer; rw [h]
theorem newer_sub {H H' : Hp} : Same (newer H H') H' := fun b o e => by
  cases h : H b with
  | none => rw [newer_at h] at e; exact e
  | some u => rw [newer_none h] at e; cases e
/-- fewer were there ahead, more stand now -/
theorem newer_mono {H G H' G' : Hp} (h : ∀ b, H b = none → G b = none) (s : ∀ b, G b = none → ∀ o, H' b = some o → G' b = some o) : Same (newer H H') (newer G G') := fun b o e => by
  cases z : H b with
  | none =>
    rw [newer_at z] at e
    rw [newer_at (h b z)]
    exact s b (h b z) o e
  | some u =>
    rw [newer_none z] at e
    cases e
theorem DpAll.at' {K : PySem.W.Frag} {H : Hp} : ∀ {xs : List V} {ds : List PyData} {i : Nat} {x : V}, DpAll K H xs ds → xs[i]? = some x → ∃ d, ds[i]? = some d ∧ Dp K H x d
  | _, _, 0, _, .cons h _, e => by
    cases e
    exact ⟨_, rfl, h⟩
  | _, _, i + 1, _, .cons _ t, e => DpAll.at' (i := i) t e
theorem DpAll.len {K : PySem.W.Frag} {H : Hp} : ∀ {xs : List V} {ds : List PyData}, DpAll K H xs ds → xs.length = ds.length
  | _, _, .nil => rfl
  | _, _, .cons _ t => congrArg (· + 1) (DpAll.len t)
theorem DpAll.snoc {K : PySem.W.Frag} {H : Hp} {y : V} {d : PyData} (h : Dp K H y d) : ∀ {xs : List V} {ds : List PyData}, DpAll K H xs ds → DpAll K H (xs ++ [y]) (ds ++ [d])
  | _, _, .nil => .cons h .nil
  | _, _, .cons g t => .cons g (DpAll.snoc h t)
/-- while a list of copies grows at D: what is there -/
structure Copying (K : PySem.W.Frag) (H : Hp) (D : Addr) (ds : List PyData) (i : Nat) (G : Hp) : Prop where
  ex : ∃ acc, G D = some (.lst acc) ∧ acc.length = i ∧ DpAll K (newer (upd H D (.lst [])) G) acc (ds.take i)
  same : Same H G
theorem Copying.start {K : PySem.W.Frag} {H : Hp} {D : Addr} {ds : List PyData} (hD : H D = none) : Copying K H D ds 0 (upd H D (.lst [])) :=
  ⟨⟨[], upd_same, rfl, .nil⟩, fun b o e => by rw [upd_ne (ne_of_none e hD)]; exact e⟩
theorem Copying.more {K : PySem.W.Frag} {H G G' : Hp} {D : Addr} {ds : List PyData} {i : Nat} {d : PyData} {y : V} (hD : H D = none) (c : Copying K H D ds i G) (hd : ds[i]? = some d) (s : Same G G') (hy : Dp K (newer G G') y d) :
    ∃ acc, G' D = some (.lst acc) ∧ acc.length = i ∧ Copying K H D ds (i + 1) (upd G' D (.lst (acc ++ [y]))) := by
  obtain ⟨⟨acc, ea, el, ed⟩, sm⟩ := c
  have off : ∀ {b : Addr} {u : HO}, b ≠ D → upd G' D u b = G' b := fun h => upd_ne h
  refine ⟨acc, s _ _ ea, el, ⟨acc ++ [y], upd_same, by rw [List.length_append, el]; rfl, ?_⟩, fun b o e => by rw [off (ne_of_none e hD)]; exact s _ _ (sm _ _ e)⟩
  have et : ds.take (i + 1) = ds.take i ++ [d] := by
    rw [List.take_add_one, hd]
    rfl
  rw [et]
  refine DpAll.snoc (Dp.same (newer_mono (fun b z => ?_) fun b z o e => ?_) d y hy) (DpAll.same (newer_mono (fun b z => z) fun b z o e => ?_) _ _ ed)
  · have n : b ≠ D := fun q => by
      rw [q, ea] at z
      cases z
    rw [upd_ne n]
    cases q : H b with
    | none => rfl
    | some o =>
      rw [sm b o q] at z
      cases z
  · have n : b ≠ D := fun q => by
      rw [q, upd_same] at z
      cases z
    rw [off n]
    exact e
  · have n : b ≠ D := fun q => by
      rw [q, upd_same] at z
      cases z
    rw [off n]
    exact s _ _ e
theorem Copying.all {K : PySem.W.Frag} {H G : Hp} {D : Addr} {ds : List PyData} (hD : H D = none) (c : Copying K H D ds ds.length G) : ∃ acc, G D = some (.lst acc) ∧ DpAll K (newer H G) acc ds := by
  obtain ⟨⟨acc, ea, _, ed⟩, sm⟩ := c
  rw [List.take_length] at ed
  refine ⟨acc, ea, DpAll.same (newer_mono (fun b z => ?_) fun b _ o e => e) _ _ ed⟩
  by_cases n : b = D
  · rw [n]
    exact hD
  · rw [upd_ne n] at z
    exact z
/-- copied(x), x data at most n deep: the same data on new addresses -/
def spCopy (K : PySem.W.Frag) (n : Nat) : Sp := fun vs H Q _ => ∃ (x : V) (d : PyData), vs = [x] ∧ Dp K H x d ∧ fit n d = true ∧ ∀ (y : V) (H' : Hp), Same H H' → Dp K (newer H H') y d → Q y H'
def spPrev (K : PySem.W.Frag) : Nat → Sp
  | 0 => fun _ _ _ _ => False
  | n + 1 => spCopy K n
/-- how the rest of such a def is told of a scalar -/
theorem dp_newer {K : PySem.W.Frag} {H G : Hp} {x : V} {d : PyData} (h : Dp K H x d) (n1 : ∀ ds, d ≠ .list ds) (n2 : ∀ ds, d ≠ .tuple ds) : Dp K G x d := by
  cases h with
  | non => exact .non
  | bl b => exact .bl b
  | int i => exact .int i
  | str z => exact .str z
  | lst => exact absurd rfl (n1 _)
  | tup => exact absurd rfl (n2 _)
end VG

set_option maxRecDepth 100000
/-! Own errors: an __init__ that calls super().__init__('..'), keeps copies of what it got, then the name of its class as its code. -/
namespace VG
open PySem PySem.Spec PyProof.Rows L2
/-- without what is told by a property alone -/
def nox (H : Hp) : Hp := fun b => match H b with
  | some (.ext _) => none
  | o => o
theorem nox_of {H : Hp} {b : Addr} {o : HO} (h : H b = some o) (n : ∀ φ, o ≠ .ext φ) : nox H b = some o := by
  unfold nox
  rw [h]
  cases o <;> first | rfl | exact absurd rfl (n _)
theorem of_nox {H : Hp} {b : Addr} {o : HO} (h : nox H b = some o) : H b = some o ∧ ∀ φ, o ≠ .ext φ := by
  unfold nox at h
  cases e : H b with
  | none =>
    rw [e] at h
    cases h
  | some u =>
    rw [e] at h
    cases u <;> cases h <;> exact ⟨rfl, fun φ z => by cases z⟩
theorem SqL.nox {K : PySem.W.Frag} {H : Hp} {a : Addr} {xs : List V} (h : SqL K H a xs) : SqL K (VG.nox H) a xs := by
  rcases h with (h | ⟨o, h⟩) | h
  · exact .inl (.inl (nox_of h fun _ z => by cases z))
  · exact .inl (.inr ⟨o, nox_of h fun _ z => by cases z⟩)
  · exact .inr h
theorem SqT.nox {K : PySem.W.Frag} {H : Hp} {a : Addr} {xs : List V} (h : SqT K H a xs) : SqT K (VG.nox H) a xs := by
  rcases h with (h | ⟨o, h⟩) | h
  · exact .inl (.inl (nox_of h fun _ z => by cases z))
  · exact .inl (.inr ⟨o, nox_of h fun _ z => by cases z⟩)
  · exact .inr h
mutual
theorem Dp.nox {K : PySem.W.Frag} {H : Hp} : ∀ (d : PyData) (v : V), Dp K H v d → Dp K (VG.nox H) v d
  | .none, _, h => by cases h; exact .non
  | .bool b, _, h => by cases h; exact .bl b
  | .int i, _, h => by cases h; exact .int i
  | .str x, _, h => by cases h; exact .str x
  | .list ds, _, h => by
    cases h with
    | lst hs hd => exact .lst (SqL.nox hs) (DpAll.nox ds _ hd)
  | .tuple ds, _, h => by
    cases h with
    | tup hs hd => exact .tup (SqT.nox hs) (DpAll.nox ds _ hd)
  | .dict _, _, h => by cases h
theorem DpAll.nox {K : PySem.W.Frag} {H : Hp} : ∀ (ds : List PyData) (vs : List V), DpAll K H vs ds → DpAll K (VG.nox H) vs ds
  | [], _, h => by cases h; exact .nil
  | d :: ds, _, h => by
    cases h with
    | cons h t => exact .cons (Dp.nox d _ h) (DpAll.nox ds _ t)
end
/-- fields and the data that they hold -/
def FlOk (K : PySem.W.Frag) (H : Hp) (fs : List (Str × V)) (FL : List (Str × PyData)) : Prop := fs.map (·.1) = FL.map (·.1) ∧ DpAll K H (fs.map (·.2)) (FL.map (·.2))
theorem FlOk.nil {K : PySem.W.Frag} {H : Hp} : FlOk K H [] [] := ⟨rfl, .nil⟩
theorem FlOk.cons {K : PySem.W.Frag} {H : Hp} {fs : List (Str × V)} {FL : List (Str × PyData)} {f : Str} {v : V} {d : PyData} (h : Dp K H v d) (t : FlOk K H fs FL) : FlOk K H ((f, v) :: fs) ((f, d) :: FL) :=
  ⟨congrArg (f :: ·) t.1, .cons h t.2⟩
theorem FlOk.same {K : PySem.W.Frag} {H H' : Hp} {fs : List (Str × V)} {FL : List (Str × PyData)} (e : Same H H') (t : FlOk K H fs FL) : FlOk K H' fs FL := ⟨t.1, DpAll.same e _ _ t.2⟩
theorem FlOk.len {K : PySem.W.Frag} {H : Hp} {fs : List (Str × V)} {FL : List (Str × PyData)} (t : FlOk K H fs FL) : fs.length = FL.length := by
  have z := congrArg List.length t.1
  rw [List.length_map, List.length_map] at z
  exact z
theorem FlOk.get {K : PySem.W.Frag} {H : Hp} {f : Str} {d : PyData} : ∀ {fs : List (Str × V)} {FL : List (Str × PyData)}, FlOk K H fs FL → FL.lookup f = some d → ∃ v, fs.lookup f = some v ∧ Dp K H v d
  | [], [], _, h => by cases h
  | (g, v) :: fs, (g', e) :: FL, ⟨h1, h2⟩, h => by
    have h1 := List.cons.inj h1
    have eg : g = g' := h1.1
    subst eg
    have h2 : DpAll K H (v :: fs.map (·.2)) (e :: FL.map (·.2)) := h2
    cases h2 with
    | cons hv ht =>
      rw [List.lookup_cons] at h ⊢
      cases q : f == g with
      | true =>
        rw [q] at h
        cases h
        exact ⟨v, rfl, hv⟩
      | false =>
        rw [q] at h
        exact FlOk.get ⟨h1.2, ht⟩ h
  | [], _ :: _, ⟨h, _⟩, _ => by cases h
  | _ :: _, [], ⟨h, _⟩, _ => by cases h
/-- an error at a is being made: H behind super().__init__, G now, FL what it holds (the last first) -/
structure Stg (K : PySem.W.Frag) (H : Hp) (a C : Addr) (FL : List (Str × PyData)) (G : Hp) : Prop where
  ex : ∃ fs, FlOk K (nox (newer H G)) fs FL ∧ ((FL = [] ∧ G a = some (exo a C none)) ∨ ∃ dx, H dx = none ∧ dx ≠ a ∧ G a = some (exo a C (some dx)) ∧ G dx = some (exd dx fs))
  but : ∀ b o, b ≠ a → H b = some o → G b = some o
  at_ : (H a).isSome = true
section
variable {K : PySem.W.Frag} {H G G1 : Hp} {a C : Addr} {FL : List (Str × PyData)}
theorem Stg.start (h : H a = some (exo a C none)) : Stg K H a C [] H := ⟨⟨[], .nil, .inl ⟨rfl, h⟩⟩, fun _ _ _ e => e, by rw [h]; rfl⟩
theorem Stg.on (s : Stg K H a C FL G) (sm : Same G G1) : Stg K H a C FL G1 := by
  obtain ⟨⟨fs, hf, hx⟩, but, ha⟩ := s
  refine ⟨⟨fs, hf.same fun b o e => ?_, ?_⟩, fun b o n e => sm _ _ (but b o n e), ha⟩
  · obtain ⟨e1, e2⟩ := of_nox e
    exact nox_of (newer_mono (fun _ z => z) (fun b _ o q => sm b o q) b o e1) e2
  · rcases hx with ⟨e1, e2⟩ | ⟨dx, h1, h2, h3, h4⟩
    · exact .inl ⟨e1, sm _ _ e2⟩
    · exact .inr ⟨dx, h1, h2, sm _ _ h3, sm _ _ h4⟩
theorem exo_ext {φ : HO} {e C : Addr} {d : Option Addr} (h : φ = exo e C d) : ∃ ψ, φ = .ext ψ := ⟨_, h⟩
/-- a field is stored -/
theorem Stg.store {σ : L2.St} {R : L2.St → Hp → Prop} {f : Str} {y : V} {d : PyData} (s : Stg K H a C FL G) (hy : Dp K (nox (newer H G)) y d) (hl : FL.length ≤ 900) (next : ∀ G', Stg K H a C ((f, d) :: FL) G' → R σ G') :
    (G a = some (exo a C none) ∧ ∀ dx, G dx = none → dx ≠ a → R σ (upd (upd G dx (exd dx [(f, y)])) a (exo a C (some dx)))) ∨
      ∃ (dx : Addr) (fs : List (Str × V)), G a = some (exo a C (some dx)) ∧ G dx = some (exd dx fs) ∧ fs.length ≤ 900 ∧ R σ (upd G dx (exd dx ((f, y) :: fs))) := by
  obtain ⟨⟨fs, hf, hx⟩, but, ha⟩ := s
  have nH : ∀ {b : Addr}, G b = none → b ≠ a → H b = none := fun {b} z n => by
    cases q : H b with
    | none => rfl
    | some o =>
      rw [but b o n q] at z
      cases z
  have nA : ∀ {b : Addr} {o : HO}, newer H G b = some o → b ≠ a := fun {b o} e z => by
    obtain ⟨u, hu⟩ := Option.isSome_iff_exists.mp ha
    rw [z, newer_none hu] at e
    cases e
  rcases hx with ⟨rfl, e2⟩ | ⟨dx, h1, h2, h3, h4⟩
  · refine .inl ⟨e2, fun dx hdx ne => next _ ⟨⟨[(f, y)], ?_, .inr ⟨dx, nH hdx ne, ne, upd_same, by rw [upd_ne ne, upd_same]⟩⟩, fun b o n e => ?_, ha⟩⟩
    · refine FlOk.cons (Dp.same (fun b o e => ?_) d y hy) .nil
      obtain ⟨e1, e3⟩ := of_nox e
      refine nox_of (newer_mono (fun _ z => z) (fun b _ o q => ?_) b o (H := H) (G := H) (H' := fun b => if b = a then none else G b) ?_) e3
      · have q : (if b = a then none else G b) = some o := q
        by_cases n : b = a
        · rw [if_pos n] at q
          cases q
        · rw [if_neg n] at q
          rw [upd_ne n, upd_ne (ne_of_none q hdx)]
          exact q
      · have n := nA e1
        have z := newer_sub b o e1
        cases w : H b with
        | none =>
          rw [newer_at w, if_neg n]
          exact z
        | some u =>
          rw [newer_none w] at e1
          cases e1
    · rw [upd_ne n]
      have z := but b o n e
      rw [upd_ne (ne_of_none z hdx)]
      exact z
  · refine .inr ⟨dx, fs, h3, h4, by rw [hf.len]; exact hl, next _ ⟨⟨(f, y) :: fs, ?_, .inr ⟨dx, h1, h2, by rw [upd_ne (Ne.symm h2)]; exact h3, upd_same⟩⟩, fun b o n e => ?_, ha⟩⟩
    · have sm : Same (nox (newer H G)) (nox (newer H (upd G dx (exd dx ((f, y) :: fs))))) := fun b o e => by
        obtain ⟨e1, e3⟩ := of_nox e
        have z := newer_sub b o e1
        have nd : b ≠ dx := fun q => by
          rw [q, h4] at z
          exact e3 _ (Option.some.inj z).symm
        refine nox_of ?_ e3
        cases w : H b with
        | none =>
          rw [newer_at w, upd_ne nd]
          exact z
        | some u =>
          rw [newer_none w] at e1
          cases e1
      exact FlOk.cons (Dp.same sm d y hy) (hf.same sm)
    · have z := but b o n e
      rw [upd_ne (ne_of_none e h1)]
      exact z
end
/-! ### the statements of such an __init__ behind super().__init__('..') -/
/-- self.f = copied(par) for each field and the slot of its parameter, then self.code = self.__class__.__name__ -/
inductive IniSts (ps : List Str) : List (Str × Nat) → List Stmt → Prop where
  | code {x : Str} {p1 p2 p3 p4 p5 p6 : Pos} (h : ps[0]? = some x) : IniSts ps [] [.Assign [.Attribute (.Name x p1) "code" p2] (.Attribute (.Attribute (.Name x p3) "__class__" p4) "__name__" p5) p6]
  | fld {x y f : Str} {i : Nat} {l : List (Str × Nat)} {ss : List Stmt} {p1 p2 p3 p4 p5 p6 : Pos} (h : ps[0]? = some x) (hy : ps[i]? = some y) (t : IniSts ps l ss) :
      IniSts ps ((f, i) :: l) (.Assign [.Attribute (.Name x p1) f p2] (.Call (.Name "copied" p3) [.Name y p4] [] p5) p6 :: ss)
/-- what stands in the parameters' slots -/
def Args (K : PySem.W.Frag) (n : Nat) (σ : L2.St) (H : Hp) : List (Str × Nat) → List PyData → Prop
  | [], [] => True
  | p :: l, d :: ds => (∃ x, σ[p.2]? = some (some x) ∧ Dp K (nox H) x d ∧ fit n d = true) ∧ Args K n σ H l ds
  | _, _ => False
/-- the fields behind them, the last first -/
def after : List (Str × Nat) → List PyData → List (Str × PyData) → List (Str × PyData)
  | p :: l, d :: ds, FL => after l ds ((p.1, d) :: FL)
  | _, _, FL => FL
def tIni (K : PySem.W.Frag) (C : Addr) (nm : Str) (n : Nat) (l : List (Str × Nat)) : TS := fun D σ G => ∃ (H : Hp) (a : Addr) (FL : List (Str × PyData)) (rs : List PyData), σ[0]? = some (some (.ref a)) ∧ H a = some (exo a C none) ∧ Stg K H a C FL G ∧
  Args K n σ H l rs ∧ FL.length + l.length ≤ 100 ∧ ∀ G', Stg K H a C (("code", .str nm) :: after l rs FL) G' → D.nx σ G'
section
variable {X : Cx} {C fC : Addr} {fdC : FuncData} {k n : Nat} {nm : Str}
/-- an own error's class, as its __init__ needs it -/
structure IniC (K : PySem.W.Frag) (C : Addr) (nm : Str) : Prop where
  oex : OexC K C
  cls : ClsTxt K C nm
  own : OwnX K C
theorem pss_ini (hX : ∀ x i p, X.N[i]? = some x → PE X (.Name x p) (tVar i)) (T : IniC X.K C nm) (GC : FnOk X.prog X.w X.K X.mg X.base CX0 k fC fdC ["value"] (spCopy X.K n)) (hr : Room k X.A) (hg : Gl X "copied") (mC : X.mg "copied" = some (.ref fC))
    (hk : PySem.W.keepIn X.K (.ref fC) = true) (bC : L2.Binds X.K fdC ["value"] []) :
    ∀ {l : List (Str × Nat)} {ss : List Stmt}, (∀ p ∈ l, p.1 ∈ exFields) → IniSts X.N l ss → PSs X ss (tIni X.K C nm n l) := by
  intro l ss hf hs
  induction hs with
  | code h =>
    refine ⟨fun pins s σ H D I hh => (pss_one (ps_ost (hX _ 0 _ h) (pe_clsName (hX _ 0 _ h)))).run pins s σ H D I ?_⟩
    obtain ⟨H0, a, FL, rs, h0, hae, st, ha, hl, q⟩ := hh
    have ex : H a = some (exo a C none) ∨ ∃ (dx : Addr) (fs : List (Str × V)), H a = some (exo a C (some dx)) ∧ H dx = some (exd dx fs) := by
      obtain ⟨fs, _, ⟨_, e⟩ | ⟨dx, _, _, e1, e2⟩⟩ := st.ex
      · exact .inl e
      · exact .inr ⟨dx, fs, e1, e2⟩
    refine ⟨_, h0, a, C, nm, rfl, T.cls, ex, _, h0, a, C, rfl, T.oex, T.own.no _ (by decide), ?_⟩
    refine st.store (R := D.nx) (.str nm) (by have := hl; simp at this; omega) fun G' s' => q G' ?_
    match rs, ha with
    | [], _ => exact s'
  | @fld x y f i l ss p1 p2 p3 p4 p5 p6 h hy t ih =>
    have ih := ih fun p hp => hf p (List.mem_cons_of_mem _ hp)
    refine ⟨fun pins s σ H D I hh => (pss_cons (ps_ost (hX _ 0 _ h) (pe_call GC hr hg mC hk bC .nil pass0 (pa_cons (hX _ i _ hy) pa_nil))) ih).run pins s σ H D I ?_⟩
    obtain ⟨H0, a, FL, rs, h0, hae, st, ha, hl, q⟩ := hh
    match rs, ha with
    | d :: rs, ⟨⟨x, hx, hd, hfit⟩, ha⟩ =>
      have noxH : Same (nox H0) H := fun b o e => by
        obtain ⟨e1, e2⟩ := of_nox e
        refine st.but b o (fun z => ?_) e1
        rw [z, hae] at e1
        exact e2 _ (Option.some.inj e1).symm
      refine ⟨x, hx, x, d, rfl, Dp.same noxH d x hd, hfit, fun y G1 sm hy' => ⟨_, h0, a, C, rfl, T.oex, T.own.no _ (hf (f, i) List.mem_cons_self), ?_⟩⟩
      have st1 := st.on sm
      have hy2 : Dp X.K (nox (newer H0 G1)) y d := by
        refine Dp.nox d y (Dp.same (newer_mono (fun b z => ?_) fun _ _ _ e => e) d y hy')
        cases w : H0 b with
        | none => rfl
        | some o =>
          by_cases nb : b = a
          · obtain ⟨fs, _, ⟨_, e⟩ | ⟨dx, _, _, e1, e2⟩⟩ := st.ex
            · rw [nb, e] at z
              cases z
            · rw [nb, e1] at z
              cases z
          · rw [st.but b o nb w] at z
            cases z
      have hl : FL.length + (l.length + 1) ≤ 100 := hl
      refine st1.store (R := (_ : Ends).nx) hy2 (by omega) fun G' s' => ?_
      exact ⟨H0, a, (f, d) :: FL, rs, h0, hae, s', ha, by show FL.length + 1 + l.length ≤ 100; omega, q⟩
end
end VG
namespace VG
open PySem PySem.Spec PyProof.Rows L2
/-- __init__ of an own error: what it leaves -/
def spErr (K : PySem.W.Frag) (C : Addr) (nm : Str) (n m : Nat) (l : List (Str × Nat)) : Sp := fun vs H Q _ => ∃ (a : Addr) (xs : List V) (rs : List PyData), vs = .ref a :: xs ∧ vs.length = m ∧ H a = some (exo a C none) ∧ Args K n (vs.map some) H l rs ∧ l.length ≤ 100 ∧
  ∀ G', Stg K H a C (("code", .str nm) :: after l rs []) G' → Q .non G'
section
variable {P : Program} {w : World} {K : PySem.W.Frag} {mg : Str → Option Value} {base : Heap} {B i newId : String} {bmB : List Value} {C f cc cda fC : Addr} {qual : Str} {params : Arguments} {rest : List Stmt} {sc : Scope} {fd fdC : FuncData} {ps : List Str} {p0 p1 p2 p3 p4 p5 : Pos} {j k n : Nat} {z nm : Str} {self : Arg} {l : List (Str × Nat)}
theorem ok_ini (hev : SupEv p0 p1 p2 p3 p4 j z) (T : IniTxt P K mg B i newId bmB C f cc cda qual params (superInit p0 p1 p2 p3 p4 p5 j z :: rest) sc fd) (S : IniScope ps sc) (hself : (params.posonlyargs ++ params.args).head? = some self) (hp0 : ps[0]? = some self.arg)
    (TC : IniC K C nm) (GC : FnOk P w K mg base CX0 k fC fdC ["value"] (spCopy K n)) (hg : sc.names.lookup ("copied" : Str) = some .globalImplicit) (mC : mg "copied" = some (.ref fC)) (hk : PySem.W.keepIn K (.ref fC) = true) (bC : L2.Binds K fdC ["value"] [])
    (hps : ∀ x ∈ ps, (x == ("__debug__" : Str)) = false ∧ (x == ("__classdict__" : Str)) = false) (hf : ∀ p ∈ l, p.1 ∈ exFields) (hs : IniSts ps l rest) : FnOk P w K mg base CX0 (k + 1) f fd ps (spErr K C nm n ps.length l) := by
  refine ini_ok hev T S hself hp0 (fun vs H Q E h => ?_) fun A outer s H vs Q E hr h => ?_
  · obtain ⟨_, _, _, _, e, _⟩ := h
    exact e
  · obtain ⟨a, xs, rs, rfl, hl, hea, ha, hn, q⟩ := h
    refine ⟨a, xs, rfl, hea, _, pss_ini (X := iniCx P w K mg base ps qual sc f cda cc A outer s H) (C := C) (nm := nm) (n := n) (fun x i p hx => pe_var hx (.inl (S.par x (List.mem_of_getElem? hx))) (hps x (List.mem_of_getElem? hx)).1 (hps x (List.mem_of_getElem? hx)).2) TC GC hr hg mC hk bC hf hs, ?_⟩
    exact ⟨H, a, [], rs, rfl, hea, Stg.start hea, ha, by show 0 + l.length ≤ 100; omega, q⟩
end
end VG

set_option maxRecDepth 100000
/-! An own error is made and raised: what its class and its dict tell behind that. -/
namespace VG
open PySem PySem.Spec PyProof.Rows L2
/-- the dict of an error: its fields, the last first -/
def ErrD (K : PySem.W.Frag) (H : Hp) (dd : Addr) (FL : List (Str × PyData)) : Prop := ∃ fs, H dd = some (.xd fs) ∧ FlOk K H fs FL
theorem ErrD.same {K : PySem.W.Frag} {H H' : Hp} {dd : Addr} {FL : List (Str × PyData)} (e : Same H H') (h : ErrD K H dd FL) : ErrD K H' dd FL := by
  obtain ⟨fs, h1, h2⟩ := h
  exact ⟨fs, e _ _ h1, h2.same e⟩
def slots : Nat → List Str → List (Str × Nat)
  | _, [] => []
  | i, f :: fs => (f, i) :: slots (i + 1) fs
theorem slots_len : ∀ {i : Nat} {l : List Str}, (slots i l).length = l.length
  | _, [] => rfl
  | i, _ :: l => congrArg (· + 1) (slots_len (i := i + 1) (l := l))
theorem args_of {K : PySem.W.Frag} {n : Nat} {H : Hp} : ∀ {vs : List V} {ds : List PyData} {flds : List Str} {pre : List (Option V)}, DpAll K (nox H) vs ds → (∀ d ∈ ds, fit n d = true) → flds.length = vs.length → Args K n (pre ++ vs.map some) H (slots pre.length flds) ds
  | [], [], [], _, _, _, _ => trivial
  | v :: vs, d :: ds, f :: flds, pre, .cons h t, hf, hl => by
    refine ⟨⟨v, ?_, h, hf d List.mem_cons_self⟩, ?_⟩
    · show (pre ++ (some v :: vs.map some))[pre.length]? = _
      rw [List.getElem?_append_right (Nat.le_refl _), Nat.sub_self]
      rfl
    · have q := args_of (pre := pre ++ [some v]) t (fun d hd => hf d (List.mem_cons_of_mem _ hd)) (Nat.succ.inj hl)
      rw [List.length_append, List.append_assoc] at q
      exact q
/-- what is wished of C(vs ..), C an own error with the fields flds -/
theorem mk_err {K : PySem.W.Frag} {C : Addr} {nm : Str} {n m : Nat} {flds : List Str} {H1 : Hp} {vs : List V} {ds : List PyData} {Q : XK} (hm : flds.length + 1 = m) (hl : flds.length = vs.length) (h100 : flds.length ≤ 100) (hv : DpAll K H1 vs ds) (hf : ∀ d ∈ ds, fit n d = true)
    (q : ∀ (dd : Addr) (H' : Hp), Same H1 H' → ErrD K H' dd (("code", .str nm) :: after (slots 1 flds) ds []) → Q (.ref C) (some dd) H') :
    vs.length ≤ 1000 ∧ ∀ a, H1 a = none → spErr K C nm n m (slots 1 flds) (.ref a :: (vs ++ [])) (upd H1 a (exo a C none))
      (fun v H2 => v = .non ∧ ∃ (d : Addr) (fs : List (Str × V)), H2 a = some (exo a C (some d)) ∧ H2 d = some (exd d fs) ∧ H1 d = none ∧ Q (.ref C) (some d) (upd (del H2 a) d (.xd fs))) (fun _ _ _ => False) := by
  refine ⟨by omega, fun a ha => ?_⟩
  rw [List.append_nil]
  have sm1 : Same (nox H1) (nox (upd H1 a (exo a C none))) := fun b o e => by
    obtain ⟨e1, e2⟩ := of_nox e
    exact nox_of (by rw [upd_ne (ne_of_none e1 ha)]; exact e1) e2
  refine ⟨a, vs, ds, rfl, by show vs.length + 1 = m; omega, upd_same, args_of (pre := [some (.ref a)]) (DpAll.same sm1 _ _ (DpAll.nox _ _ hv)) hf hl, by rw [slots_len]; exact h100, fun G' st => ⟨rfl, ?_⟩⟩
  obtain ⟨⟨fs, hF, ⟨z, _⟩ | ⟨dx, h1, h2, h3, h4⟩⟩, but, _⟩ := st
  · cases z
  · have hd1 : H1 dx = none := by
      rw [upd_ne h2] at h1
      exact h1
    refine ⟨dx, fs, h3, h4, hd1, q dx _ (fun b o e => ?_) ⟨fs, upd_same, hF.same fun b o e => ?_⟩⟩
    · have na := ne_of_none e ha
      rw [upd_ne (ne_of_none e hd1), del_ne na]
      exact but b o na (by rw [upd_ne na]; exact e)
    · obtain ⟨e1, e2⟩ := of_nox e
      have z := newer_sub b o e1
      have nd : b ≠ dx := fun y => by
        rw [y, h4] at z
        exact e2 _ (Option.some.inj z).symm
      have na : b ≠ a := fun y => by
        rw [y, newer_none upd_same] at e1
        cases e1
      rw [upd_ne nd, del_ne na]
      exact z
/-- an own error's class C, called by its name: its __init__ keeps its promise -/
structure ErrC (P : Program) (w : World) (K : PySem.W.Frag) (mg : Str → Option Value) (base : Heap) (nm : Str) (flds : List Str) (C : Addr) (k n : Nat) : Prop where
  ini : IniC K C nm
  glob : mg nm = some (.ref C)
  few : flds.length ≤ 100
  run : ∃ (f : Addr) (fd : FuncData) (ps : List Str), PySem.W.findIn K (.ref C) "__init__" = some (some (.ref f)) ∧ PySem.W.typeIn K (.ref f) = some (.type "function") ∧ L2.Binds K fd ps [] ∧ FnOk P w K mg base CX0 k f fd ps (spErr K C nm n (flds.length + 1) (slots 1 flds))
/-- raise C(e ..); its reading is closed by mk_err -/
def tErr (K : PySem.W.Frag) (C : Addr) (nm : Str) (flds : List Str) (n : Nat) (W : WX) (ta : TA) : TS := fun _ σ H => tMkO C (spErr K C nm n (flds.length + 1) (slots 1 flds)) [] ta σ H fun cls d H' => W cls d σ H'
section
variable {X : Cx} {nm : Str} {flds : List Str} {C : Addr} {k n : Nat} {W : WX} {e : Expr} {es : List Expr} {ta : TA} {p pos pos2 : Pos}
theorem ps_err (T : ErrC X.prog X.w X.K X.mg X.base nm flds C k n) (hc : X.calm = true) (tk : Takes X W) (hr : Room (k + 1) X.A) (hg : Gl X nm) (ha : PA X (e :: es) ta) (n1 : (nm == ("__debug__" : Str)) = false := by decide)
    (n2 : starEach (e :: es) X.env = (false, eval e X.env) :: starEach es X.env := by rfl) (n3 : (backTo pos (starEach es X.env)).any (·.1) = false := by rfl) :
    PS X (.Raise (some (.Call (.Name nm p) (e :: es) [] pos)) none pos2) (tErr X.K C nm flds n W ta) := by
  obtain ⟨f, fd, ps, h1, h2, h3, h4⟩ := T.run
  exact ps_raise hc tk (pmk_oex T.ini.oex h1 h2 h4 hr h3 .nil pass0 hg T.glob ha n1 n2 n3)
end
end VG

set_option maxRecDepth 100000
/-! A def whose code object is known (lambdas are made in it); what a lambda's body may let out. -/
namespace VG
open PySem PySem.Spec PyProof.Rows L2 LamX
section
variable {P : Program} {w : World} {K : PySem.W.Frag} {mg : Str → Option Value} {base : Heap}
theorem okGC {x qual : Str} {st : Stmt} {f c : Addr} {fd : FuncData} {N ps : List Str} {k : Nat} {sp : Sp} (F : Fun K x qual st f fd) (S : FnScope N ps (defScope st)) (hc : fd.code = .ref c) (many : ∀ vs H Q E, sp vs H Q E → vs.length = ps.length)
    (body : ∀ (A : Around) (outer : List Env) (s : Shared) (H : Hp) (vs : List V) (Q : VK) (E : XK), A.guards = some [] → Room k (A.deeper (envOfC qual (defScope st) s.heap.objs.size f (.ref c))) → sp vs H Q E →
      ∃ t, PSs (cxOf CX0 P w K mg base N qual (defScope st) f (.ref c) A outer s H E).nox (defBody st) t ∧
        t { nx := fun _ H' => Q .non H', rt := Q } (L2.start N vs) H) : FnG P w K mg base CX0 (k + 1) f fd ps sp := by
  obtain ⟨oc, od, kV, doc, pm, an, cdv, ct, osl, rfl, lk, hcd⟩ := F.ex
  obtain rfl : cdv = .ref c := hc
  refine ⟨many, fun A outer s H args us vs Q E hG hr e0 hb r q => LamX.run_ofS lk hcd S hr e0 hb r (many _ _ _ _ q) fun hr' => ?_⟩
  obtain ⟨t, h1, h2⟩ := body A outer s H vs Q E hG hr' q
  exact ⟨t, h1.nox, h2⟩
end
theorem lam_passes {X : Cx} {A : Around} {outer : List Env} {s : Shared} {H : Hp} {E : XK} {scope : Scope} {f c' : Addr} : Passes (L2.CX X.prog X.w) (lamCx X A outer s H E scope f c') E := passes_call (W := fun cls d _ H => E cls d H) (takes_of rfl rfl rfl rfl) fun _ _ _ _ h => h
/-- a call that lets nothing out, of a def that may -/
theorem passF {X : Cx} {P : Program} {w : World} : Passes (L2.CX P w) X (fun _ _ _ => False) := fun _ _ _ _ _ _ _ ⟨_, _, _, _, _, _, _, _, _, _, _, _, h⟩ => h.elim
/-- sequences alone -/
def seqs (H : Hp) : Hp := fun b => match H b with
  | some (.lst xs) => some (.lst xs)
  | some (.tup xs) => some (.tup xs)
  | some (.frz o (.lst xs)) => some (.frz o (.lst xs))
  | some (.frz o (.tup xs)) => some (.frz o (.tup xs))
  | _ => none
theorem seqs_sub {H : Hp} {b : Addr} {o : HO} (h : seqs H b = some o) : H b = some o ∧ ∀ ps, o ≠ .tbl ps := by
  unfold seqs at h
  split at h <;> first | (rename_i e; cases h; exact ⟨e, fun _ z => by cases z⟩) | cases h
mutual
theorem Dp.seqs {K : PySem.W.Frag} {H : Hp} : ∀ (d : PyData) (v : V), Dp K H v d → Dp K (VG.seqs H) v d
  | .none, _, h => by cases h; exact .non
  | .bool b, _, h => by cases h; exact .bl b
  | .int i, _, h => by cases h; exact .int i
  | .str x, _, h => by cases h; exact .str x
  | .list ds, _, h => by
    cases h with
    | lst hs hd =>
      refine .lst ?_ (DpAll.seqs ds _ hd)
      rcases hs with (e | ⟨o, e⟩) | e
      · exact .inl (.inl (by unfold VG.seqs; rw [e]))
      · exact .inl (.inr ⟨o, by unfold VG.seqs; rw [e]⟩)
      · exact .inr e
  | .tuple ds, _, h => by
    cases h with
    | tup hs hd =>
      refine .tup ?_ (DpAll.seqs ds _ hd)
      rcases hs with (e | ⟨o, e⟩) | e
      · exact .inl (.inl (by unfold VG.seqs; rw [e]))
      · exact .inl (.inr ⟨o, by unfold VG.seqs; rw [e]⟩)
      · exact .inr e
  | .dict _, _, h => by cases h
theorem DpAll.seqs {K : PySem.W.Frag} {H : Hp} : ∀ (ds : List PyData) (vs : List V), DpAll K H vs ds → DpAll K (VG.seqs H) vs ds
  | [], _, h => by cases h; exact .nil
  | d :: ds, _, h => by
    cases h with
    | cons h t => exact .cons (Dp.seqs d _ h) (DpAll.seqs ds _ t)
end
/-- data stand where tables alone have grown -/
theorem Dp.grown {K : PySem.W.Frag} {H H' : Hp} {d : PyData} {v : V} (e : ExtN H H') (h : Dp K H v d) : Dp K H' v d := Dp.same (fun b o z => e b o (seqs_sub z).1 (seqs_sub z).2) d v (Dp.seqs d v h)
end VG

set_option maxRecDepth 100000
/-! A hook that knows cStatics, and tells the __init__ of errors (whose closure holds their class). -/
namespace VG
open PySem PySem.Spec PyProof.Rows L2
open He (ba Fa DefD Tab Defn AlX)
def asI (g : Addr → Option Obj) (n : Nat) : List Addr := He.asD g n ++ [cStatics]
abbrev FnI : Type := Option (Str × Str × Arguments × FuncBody × Scope × Addr × List Str × Addr)
def fnI (K : PySem.W.Frag) (p : Str × Option Str) : FnI := match K.lookup (He.fAd K p) with
  | some ⟨_, _, .func fd, _⟩ => some (fd.name, fd.qualname, fd.params, fd.body, fd.scope, fd.globals, fd.closure.map (·.1), fd.builtins)
  | _ => none
/-- an error's __init__, as it is written -/
structure IniD where
  cls : Str
  st : Stmt
def IniD.at_ (d : IniD) : Str × Option Str := (d.cls, some "__init__")
def IniD.qual (d : IniD) : Str := d.cls ++ ".__init__"
def IniD.val (d : IniD) : FnI := some ("__init__", d.qual, defArgs d.st, .stmts (defBody d.st), defScope d.st, mainGlobals, ["__class__"], builtinsNs)
abbrev AlI : Type := AlX × List FnI
section
variable {n : Nat} {fa : List Fa} {fn : List DefD} {tf : List Defn} {ex : PySem.W.Frag → Bool} {ins : List IniD}
def obsI (n : Nat) (fa : List Fa) (fn : List DefD) (tf : List Defn) (ex : PySem.W.Frag → Bool) (ins : List IniD) (g : Addr → Option Obj) : AlI :=
  ((He.obsT fa fn [] (He.frT g (asI g n)), ex (He.frT g (asI g n)) && He.tabsB g tf (He.frT g (asI g n))), ins.map fun d => fnI (He.frT g (asI g n)) d.at_)
structure SaysI (fa : List Fa) (fn : List DefD) (tf : List Defn) (ex : PySem.W.Frag → Bool) (ins : List IniD) (w : World) (h : Heap) (K : PySem.W.Frag) : Prop where
  x : He.SaysX fa fn [] tf ex w h K
  ini : ∀ d ∈ ins, fnI K d.at_ = d.val
theorem saysI_of {w : World} {h : Heap} (e : obsI n fa fn tf ex ins h.get? = (He.valX fn [] w, ins.map IniD.val)) : SaysI fa fn tf ex ins w h (He.frT h.get? (asI h.get? n)) := by
  generalize hK : He.frT h.get? (asI h.get? n) = K at *
  have e1 : He.obsT fa fn [] K = He.valT fn [] w := by
    have z := congrArg (fun z : AlI => z.1.1) e
    unfold obsI at z
    rw [hK] at z
    exact z
  have e2 : (ex K && He.tabsB h.get? tf K) = true := by
    have z := congrArg (fun z : AlI => z.1.2) e
    unfold obsI at z
    rw [hK] at z
    exact z
  have e3 : (ins.map fun d => fnI K d.at_) = ins.map IniD.val := by
    have z := congrArg (fun z : AlI => z.2) e
    unfold obsI at z
    rw [hK] at z
    exact z
  obtain ⟨h1, h2⟩ := ba e2
  have tabs : ∀ p ∈ tf, PySem.W.codeHdIn K (He.cT K p).1 (He.cT K p).2 = true ∧ ∃ o, h.get? (He.cT K p).2 = some o ∧ He.emptyTab o = true := fun p hp => by
    obtain ⟨h3, h4⟩ := ba (List.all_eq_true.mp h2 p hp)
    match q : h.get? (He.cT K p).2 with
    | none =>
      rw [q] at h4
      cases h4
    | some o =>
      rw [q] at h4
      exact ⟨h3, o, rfl, h4⟩
  refine ⟨⟨e1, h1, fun p hp => (tabs p hp).1, fun p hp => ?_, fun p hp => ?_⟩, fun d hd => ?_⟩
  · obtain ⟨_, o, q, z⟩ := tabs p hp
    rw [← hK] at q ⊢
    exact He.frT_none q z
  · obtain ⟨_, o, q, z⟩ := tabs p hp
    rw [q, He.emptyTab_eq z]
  · exact List.map_inj_left.mp e3 d hd
def hookI (n : Nat) (fa : List Fa) (fn : List DefD) (tf : List Defn) (ex : PySem.W.Frag → Bool) (ins : List IniD) : PySem.W.Hook where
  α := AlI
  obs := fun s => obsI n fa fn tf ex ins s.heap.get?
  val := fun w => (He.valX fn [] w, ins.map IniD.val)
  says := fun w h => ∃ K : PySem.W.Frag, K.In h ∧ SaysI fa fn tf ex ins w h K
  of := fun _ _ e => ⟨_, He.frT_in, saysI_of e⟩
  keeps := fun _ _ _ ⟨K, hK, c⟩ k => ⟨K, PySem.W.Frag.In.keeps hK k, ⟨c.x.t, c.x.more, c.x.hd, c.x.out, fun p hp => k _ _ (c.x.empty p hp)⟩, c.ini⟩
theorem obsI_eq {g : Addr → Option Obj} {s : Shared} (h : ∀ a, g a = s.heap.get? a) : obsI n fa fn tf ex ins g = (hookI n fa fn tf ex ins).obs s := by
  have e : g = s.heap.get? := funext h
  rw [e] <;> rfl
end
end VG

set_option maxRecDepth 100000
/-! What the head is to tell of an own error, as a Bool. -/
namespace VG
open PySem PySem.Spec PyProof.Rows L2
def clsB (K : PySem.W.Frag) (C : Addr) (nm : Str) : Bool := match K.lookup C with
  | some ⟨.type t, _, .cls cd, sl⟩ => decide (t = "type") && (match cd.mro, sl.toList with
    | .ref C' :: bm, [_, _, some (.str z _), _, some (.builtin n), _] => decide (C' = C) && (decide (z = nm) && (decide (n = "ValueError.__new__") && (cd.hasDict && (!cd.hasDel && PySem.HandSPX.refsVE bm))))
    | _, _ => false)
  | _ => false
theorem clsB_ok {K : PySem.W.Frag} {C : Addr} {nm : Str} (h : clsB K C nm = true) : ∃ (name q : Str) (N : Addr) (bs bm : List Value) (sn : List Str) (sub : List Value) (ab : Bool) (col : Option Bool) (dd : Option Addr) (k0 k1 : Option Value) (tk : Tok) (k3 k5 : Option Value),
    K.lookup C = some (excClassObj name q C N bs bm true sn sub ab col dd k0 k1 (some (.str nm tk)) k3 k5 "ValueError.__new__") ∧ PySem.HandSPX.refsVE bm = true := by
  unfold clsB at h
  split at h
  · rename_i t dd cd sl e
    obtain ⟨h1, h2⟩ := Bool.and_eq_true_iff.mp h
    have ht : t = "type" := of_decide_eq_true h1
    split at h2
    · rename_i C' bm a0 a1 z tk a3 n a5 e1 e2
      simp only [Bool.and_eq_true, decide_eq_true_eq, Bool.not_eq_true'] at h2
      obtain ⟨g1, g2, g3, g4, g5, g6⟩ := h2
      subst ht g1 g2 g3
      obtain ⟨c1, c2, c3, c4, c5, c6, c7, c8, c9, c10, c11⟩ := cd
      have e1 : c3 = .ref C' :: bm := e1
      have g4 : c6 = true := g4
      have g5 : c11 = false := g5
      subst e1 g4 g5
      have es : sl = #[a0, a1, some (.str z tk), a3, some (.builtin "ValueError.__new__"), a5] := Array.toList_inj.mp e2
      subst es
      exact ⟨c1, c5, c4, c2, bm, c7, c8, c9, c10, dd, a0, a1, tk, a3, a5, e, g6⟩
    · cases h2
  · cases h
def nameB (K : PySem.W.Frag) (C : Addr) : Bool := match PySem.W.findCls K (.ref C) (.type "type") "__name__" with
  | some (.get g a o t) => decide (g = .builtin "getset_descriptor.__get__") && (decide (a = .builtin "type.__name__") && (decide (o = .ref C) && decide (t = .type "type")))
  | _ => false
theorem nameB_ok {K : PySem.W.Frag} {C : Addr} (h : nameB K C = true) : PySem.W.findCls K (.ref C) (.type "type") "__name__" = some (.get (.builtin "getset_descriptor.__get__") (.builtin "type.__name__") (.ref C) (.type "type")) := by
  unfold nameB at h
  split at h
  · rename_i g a o t e
    simp only [Bool.and_eq_true, decide_eq_true_eq] at h
    obtain ⟨h1, h2, h3, h4⟩ := h
    rw [e, h1, h2, h3, h4]
  · cases h
/-- an own error's class: all but its __init__ -/
def errB (K : PySem.W.Frag) (nm : Str) : Bool := clsB K (He.ga K nm) nm && (nameB K (He.ga K nm) && (ownXB K (He.ga K nm) && (decide (PySem.W.findIn K (.ref (He.ga K nm)) "__setattr__" = some (some (.builtin "object.__setattr__"))) && (decide (PySem.W.subIn K (.ref (He.ga K nm)) (.type "BaseException") = some true) &&
  (decide (PySem.W.typeIn K (.ref (He.ga K nm)) = some (.type "type")) && (PySem.W.keepIn K (.ref (He.ga K nm)) && (decide (PySem.W.findIn K (.ref (He.ga K nm)) "__class__" = some (some (.builtin "object.__class__"))) && (decide (PySem.W.specialIn K (.builtin "object.__class__") "__get__" = some (some (.builtin "getset_descriptor.__get__"))) &&
  (decide (PySem.W.takesIn K (.builtin "object.__class__") = some true) && (decide (PySem.W.mroIn K (He.ga K nm) (.type "object") = some true) && PySem.W.readsIn K (He.ga K nm) (.type "type")))))))))))
theorem errB_ok {K : PySem.W.Frag} {nm : Str} (h : errB K nm = true) : IniC K (He.ga K nm) nm := by
  unfold errB at h
  simp only [Bool.and_eq_true, decide_eq_true_eq] at h
  obtain ⟨h1, h2, h3, h4, h5, h6, h7, h8, h9, h10, h11, h12⟩ := h
  obtain ⟨name, q, N, bs, bm, sn, sub, ab, col, dd, k0, k1, tk, k3, k5, e, g⟩ := clsB_ok h1
  have o := ownX_of h3
  refine ⟨⟨⟨name, q, N, bs, bm, sn, sub, ab, col, dd, k0, k1, _, k3, k5, e, g⟩, h4, h5, h6, h7⟩, ⟨o.xf.ga, o.xf.gg, h5, ?_, h8, h9, h10, h11, h12, nameB_ok h2, h6, ⟨_, _, _, _, tk, e, rfl⟩⟩, o⟩
  unfold PySem.W.clsIn
  rw [e] <;> rfl
/-- its __init__ -/
def iniB (K : PySem.W.Frag) (nm file : Str) : Bool := decide (PySem.W.findIn K (.ref (He.ga K nm)) "__init__" = some (some (.ref (He.ma K (He.ga K nm) "__init__")))) && (decide (PySem.W.typeIn K (.ref (He.ma K (He.ga K nm) "__init__")) = some (.type "function")) &&
  (decide (PySem.W.ks_superIn K (He.ga K nm) (He.ga K nm) "__init__" = some (some (.builtin "ValueError.__init__"))) && (decide (PySem.W.subIn K (.ref (He.ga K nm)) (.type "ValueError") = some true) && (decide (PySem.W.mroIn K (He.ga K nm) (.ref (He.ga K nm)) = some true) &&
  (decide (PySem.W.nsIn K cStatics "thirdparty.any" = some none) && (match K.lookup (He.ma K (He.ga K nm) "__init__") with
    | some ⟨_, _, .func fd, _⟩ => (match fd.code, fd.closure with
      | .ref cda, [(_, cc)] => decide (fd.defaults = .none) && (PySem.W.codeIn K (.ref cda) (nm ++ ".__init__") && ((match K.lookup cda with
          | some ⟨_, _, .fields vs, _⟩ => (match (vs[2]? : Option Value) with
            | some (.str z _) => decide (z = file)
            | _ => false)
          | _ => false) && (match K.lookup cc with
          | some ⟨_, _, .cell (some (.ref C')), _⟩ => decide (C' = He.ga K nm)
          | _ => false)))
      | _, _ => false)
    | _ => false))))))
structure IniOk (K : PySem.W.Frag) (nm file : Str) : Prop where
  find : PySem.W.findIn K (.ref (He.ga K nm)) "__init__" = some (some (.ref (He.ma K (He.ga K nm) "__init__")))
  typ : PySem.W.typeIn K (.ref (He.ma K (He.ga K nm) "__init__")) = some (.type "function")
  up : PySem.W.ks_superIn K (He.ga K nm) (He.ga K nm) "__init__" = some (some (.builtin "ValueError.__init__"))
  isB : PySem.W.subIn K (.ref (He.ga K nm)) (.type "ValueError") = some true
  self : PySem.W.mroIn K (He.ga K nm) (.ref (He.ga K nm)) = some true
  opq : PySem.W.nsIn K cStatics "thirdparty.any" = some none
  fn : ∃ (oc : Value) (od : Option Addr) (fd : FuncData) (osl : Array (Option Value)) (cda cc : Addr) (x : Str), K.lookup (He.ma K (He.ga K nm) "__init__") = some ⟨oc, od, .func fd, osl⟩ ∧ fd.code = .ref cda ∧ fd.closure = [(x, cc)] ∧ fd.defaults = .none ∧
    PySem.W.codeIn K (.ref cda) (nm ++ ".__init__") = true ∧ (∃ ccl cdd vs ccs tf, K.lookup cda = some ⟨ccl, cdd, .fields vs, ccs⟩ ∧ vs[2]? = some (.str file tf)) ∧ ∃ cl cld csl, K.lookup cc = some ⟨cl, cld, .cell (some (.ref (He.ga K nm))), csl⟩
theorem iniB_ok {K : PySem.W.Frag} {nm file : Str} (h : iniB K nm file = true) : IniOk K nm file := by
  unfold iniB at h
  simp only [Bool.and_eq_true, decide_eq_true_eq] at h
  obtain ⟨h1, h2, h3, h4, h5, h6, h7⟩ := h
  refine ⟨h1, h2, h3, h4, h5, h6, ?_⟩
  split at h7
  · rename_i oc od fd osl e
    split at h7
    · rename_i cda x cc e1 e2
      simp only [Bool.and_eq_true, decide_eq_true_eq] at h7
      obtain ⟨g1, g2, g3, g4⟩ := h7
      refine ⟨oc, od, fd, osl, cda, cc, x, e, e1, e2, g1, g2, ?_, ?_⟩
      · split at g3
        · rename_i ccl cdd vs ccs ec
          split at g3
          · rename_i z tf ez
            rw [of_decide_eq_true g3] at ez
            exact ⟨ccl, cdd, vs, ccs, tf, ec, ez⟩
          · cases g3
        · cases g3
      · split at g4
        · rename_i cl cld C' csl ec
          rw [of_decide_eq_true g4] at ec
          exact ⟨cl, cld, csl, ec⟩
        · cases g4
    · cases h7
  · cases h7
end VG

set_option maxRecDepth 100000
/-! From the head's facts of an own error to its promise. -/
namespace VG
open PySem PySem.Spec PyProof.Rows L2
section
variable {P : Program} {w : World} {K : PySem.W.Frag} {mg : Str → Option Value} {base : Heap}
theorem errC_of {nm : Str} {flds ps : List Str} {st : Stmt} {rest : List Stmt} {p0 p1 p2 p3 p4 p5 : Pos} {j k n : Nat} {z : Str} {self : Arg} {fC : Addr} {fdC : FuncData} (ini : fnI K (IniD.at_ ⟨nm, st⟩) = IniD.val ⟨nm, st⟩) (I : IniOk K nm P.main.file) (E : IniC K (He.ga K nm) nm) (glob : mg nm = some (.ref (He.ga K nm)))
    (hev : SupEv p0 p1 p2 p3 p4 j z) (hb : defBody st = superInit p0 p1 p2 p3 p4 p5 j z :: rest) (S : IniScope ps (defScope st)) (hself : ((defArgs st).posonlyargs ++ (defArgs st).args).head? = some self) (hp0 : ps[0]? = some self.arg)
    (GC : FnOk P w K mg base CX0 k fC fdC ["value"] (spCopy K n)) (hg : (defScope st).names.lookup ("copied" : Str) = some .globalImplicit) (mC : mg "copied" = some (.ref fC)) (hk : PySem.W.keepIn K (.ref fC) = true) (bC : L2.Binds K fdC ["value"] [])
    (hps : ∀ x ∈ ps, (x == ("__debug__" : Str)) = false ∧ (x == ("__classdict__" : Str)) = false) (hf : ∀ f ∈ flds, f ∈ exFields) (few : flds.length ≤ 100) (hl : ps.length = flds.length + 1) (hs : IniSts ps (slots 1 flds) rest) (sup : mg "super" = none) (top : (P.main.scope.names.lookup ("super" : Str)).isSome = false)
    (binds : ∀ (q : Str) (kV doc pm cdv ct : Value) (an : Option Addr) (cc : Addr) (us : List Value), us.length = ps.length → bindArgs (PySem.W.ksFn "__init__" q (defArgs st) (defBody st) (defScope st) .none kV doc pm an cdv ct cc) ⟨us, []⟩ = pure (ps.zip us)) :
    ErrC P w K mg base nm flds (He.ga K nm) (k + 1) n := by
  obtain ⟨oc, od, fd, osl, cda, cc, x, e, e1, e2, e3, g2, g3, g4⟩ := I.fn
  have e0 : K.lookup (He.fAd K (IniD.at_ ⟨nm, st⟩)) = some ⟨oc, od, .func fd, osl⟩ := e
  unfold fnI at ini
  rw [e0] at ini
  obtain ⟨f1, f2, f3, f4, f5, f6, f7, f8, f9, f10, f11, f12, f13, f14, f15⟩ := fd
  have ini : (some (f1, f2, f3, f4, f5, f6, f7.map (·.1), f15) : FnI) = (some (("__init__" : Str), IniD.qual ⟨nm, st⟩, defArgs st, FuncBody.stmts (defBody st), defScope st, mainGlobals, [("__class__" : Str)], builtinsNs) : FnI) := ini
  simp only [Option.some.injEq, Prod.mk.injEq] at ini
  obtain ⟨rfl, rfl, rfl, rfl, rfl, rfl, ec, rfl⟩ := ini
  have e1 : f13 = .ref cda := e1
  have e2 : f7 = [(x, cc)] := e2
  have e3 : f8 = .none := e3
  subst e1 e2 e3
  have ex : x = "__class__" := by
    have z := List.cons.inj ec
    exact z.1
  subst ex
  obtain ⟨name, q, N, bs, bm, sn, sub, ab, col, dd, k0, k1, k2, k3, k5, lC, hbm⟩ := E.oex.cls
  have T : IniTxt P K mg "ValueError" "ValueError.__init__" "ValueError.__new__" PySem.HandSPX.veTail (He.ga K nm) (He.ma K (He.ga K nm) "__init__") cc cda (IniD.qual ⟨nm, st⟩) (defArgs st) (superInit p0 p1 p2 p3 p4 p5 j z :: rest) (defScope st)
      (PySem.W.ksFn "__init__" (IniD.qual ⟨nm, st⟩) (defArgs st) (defBody st) (defScope st) .none f9 f10 f11 f12 (.ref cda) f14 cc) := by
    refine ⟨PySem.W.kxs_ValueError, F.excBase_ValueError, ⟨oc, od, .none, f9, f10, f11, f12, f14, osl, by rw [hb], e⟩, g2, g3, g4, ⟨name, q, N, bs, bm, true, sn, sub, ab, col, dd, k0, k1, k2, k3, k5, lC⟩, I.up, I.isB, I.self, I.opq, sup, top⟩
  have ok := ok_ini (n := n) (nm := nm) (l := slots 1 flds) hev T S hself hp0 E GC hg mC hk bC hps (fun p hp => ?_) hs
  · rw [hl] at ok
    exact ⟨E, glob, few, _, _, ps, I.find, I.typ, .all (fun us hus => binds _ _ _ _ _ _ _ _ us hus), ok⟩
  · have key : ∀ (l : List Str) (i : Nat), (∀ f ∈ l, f ∈ exFields) → ∀ p ∈ slots i l, p.1 ∈ exFields := by
      intro l
      induction l with
      | nil => intro i _ p hp; cases hp
      | cons f l ih =>
        intro i h p hp
        rcases List.mem_cons.mp hp with e | hp
        · rw [e]
          exact h f List.mem_cons_self
        · exact ih (i + 1) (fun g hg => h g (List.mem_cons_of_mem _ hg)) p hp
    exact key flds 1 hf p hp
end
end VG

set_option maxRecDepth 100000
/-! Own errors over any built-in class (LookupError, IndexError ..). -/
namespace VG
open PySem PySem.Spec PyProof.Rows L2
open Builtin Builtin.ObjectAttr

/-- a list of classes: own ones, then a built-in class's order; nothing among them refuses a store -/
structure Tail (bm : List Value) (B newId i : String) (bmB : List Value) : Prop where
  fb : ExcBaseFacts B newId i bmB
  same : ∀ X : String, bm.contains (.type X) = bmB.contains (.type X)
  pass : ∀ self, refuseLoop self "__setattr__" bm = pure ()
  obj : bm.contains (.type "object") = true
def refsX (t : List Value) : List Value → Bool
  | [] => false
  | a :: r => (a :: r == t) || (match a with
    | .ref _ => refsX t r
    | _ => false)
theorem refsX_tail {t : List Value} {B newId i : String} (fb : ExcBaseFacts B newId i t) (ps : ∀ self, refuseLoop self "__setattr__" t = pure ()) (ob : t.contains (.type "object") = true) : ∀ bm : List Value, refsX t bm = true → Tail bm B newId i t
  | [], h => by cases h
  | a :: r, h => by
    unfold refsX at h
    rcases Bool.or_eq_true_iff.mp h with e | e
    · rw [beq_iff_eq.mp e]
      exact ⟨fb, fun _ => rfl, ps, ob⟩
    · cases a <;> try cases e
      have T := refsX_tail fb ps ob r e
      refine ⟨fb, fun X => ?_, fun self => ?_, ?_⟩
      · rw [List.contains_cons, T.same]
        rfl
      · rw [refuseLoop_ref]
        exact T.pass self
      · rw [List.contains_cons, T.obj, Bool.or_true]

section
variable {prog : Program} {w : World} {A : Around} {E : Value → Shared → Prop} {R : Result → Shared → Prop} {hp : Heap} {g : Array GenState} {d : Drawn} {t : Nat} {os : OsState}
variable {K : PySem.W.Frag} {name : Str} {tk : Tok} {v : Value} {x C : Addr} {fv : Array Value} {cd : ClassData}
/-- up to the store itself -/
theorem gx_front {ox : Obj} {od : Option Obj} (X : K.In hp) (I : PySem.W.InstAt hp x ox C od) (hcd : PySem.W.clsIn K C = some cd) (pass : ∀ self, refuseLoop self "__setattr__" cd.mro = pure ()) (ob : cd.mro.contains (.type "object") = true) (ha : PySem.W.findIn K (.ref C) name = some none)
    (hq : wpAny (model prog w) A.in1 (storeInOwnDict (.ref x) (.ref C) (.str name tk) name v false) (fun fin s' => match fin with | .done f => R (.ok f) s' | .again c' => c'.quiet = true ∧ codeAny (model prog w) A c' R s') (fun e s' => R (.error e) s') ⟨hp, g, d, t, os⟩) :
    codeAny (model prog w) A (.call (.builtin "object.__setattr__") ⟨[.ref x, .str name tk, v], []⟩) R ⟨hp, g, d, t, os⟩ := by
  have SF := F.store_object
  have ne : cd.mro.isEmpty = false := by
    cases e : cd.mro with
    | nil => rw [e] at ob; cases ob
    | cons _ _ => rfl
  have sub : PySem.W.Looks (model prog w) hp (isInstance (.ref x) (.type "object")) true := I.type.andThen (PySem.W.looks_mroIn X (by unfold PySem.W.mroIn; rw [hcd, Option.bind_some, if_neg (by rw [ne]; decide), ob]))
  have hmr : PySem.W.Looks (model prog w) hp (mroOf (.ref C)) cd.mro := (PySem.W.looks_clsIn X hcd).andThen .now
  have L3 : PySem.W.Looks (model prog w) hp (storeTaker? none) none := .now
  refine codeAny_call_builtin SF.slot.plain SF.entry (@PySem.W.check_slot (model prog w) _ _ ⟨hp, g, d, t, os⟩ "object.__setattr__" "object" "__setattr__" (.ref x) [.str name tk, v] [] _ SF.kind SF.split sub (SF.args (.ref x) (.str name tk) v) ?_)
  rw [PySem.W.osa_eq, refuse_eq]
  refine wpAny_bind (wpAny_bind (I.type.at (wpAny_bind (hmr.at ?_))))
  rw [pass]
  exact wpAny_pure (wpAny_bind (I.type.at (wpAny_bind ((PySem.W.looks_findIn X ha).at (wpAny_bind (L3.at hq))))))
/-- the first field -/
theorem gx_new (X : K.In hp) (hx : hp.get? x = some { cls := .ref C, data := .fields fv }) (hcd : PySem.W.clsIn K C = some cd) (pass : ∀ self, refuseLoop self "__setattr__" cd.mro = pure ()) (ob : cd.mro.contains (.type "object") = true) (hh : cd.hasDict = true) (ha : PySem.W.findIn K (.ref C) name = some none)
    (hq : ∀ h' tk' dx, (∀ b o, b ≠ x → hp.get? b = some o → h'.get? b = some o) → hp.objs.size ≤ dx → dx ≠ x → h'.get? x = some { cls := .ref C, dict := some dx, data := .fields fv } →
      h'.Ns1 dx (fun y => if y = name then some v else none) → R (.ok (.ret .none)) ⟨h', g, d, tk', os⟩) :
    codeAny (model prog w) A (.call (.builtin "object.__setattr__") ⟨[.ref x, .str name tk, v], []⟩) R ⟨hp, g, d, t, os⟩ := by
  refine gx_front (od := none) X ⟨hx, rfl, rfl, trivial⟩ hcd pass ob ha ?_
  have hxs : x ≠ hp.objs.size := Nat.ne_of_lt (Heap.lt_size hx)
  have hcls : PySem.W.Looks (model prog w) hp (classData C) cd := PySem.W.looks_clsIn X hcd
  obtain ⟨nm, bs, mro, ns, qn, hd, sn, sb, ab, col, del⟩ := cd
  obtain rfl : hd = true := hh
  unfold storeInOwnDict ownDictForStores
  repeat (first | with_reducible refine PySem.HandSPX.store_in_new ?_ ?_ | with_reducible refine wpAny_loadPart_at hx ?_ | with_reducible refine hcls.at ?_ | wp_step)
  · exact ⟨_, #[], _, (Heap.get?_update_ne _ _ _ _ hxs.symm).trans (Heap.get?_push_at rfl rfl), rfl, fun e he => absurd he (by simp), fun _ => rfl⟩
  · intro h' tk' hn' hs
    have hx₁ : (hp.push { cls := .type "dict", data := .dict #[] }).get? x = some { cls := .ref C, data := .fields fv } := Heap.get?_push_of_some _ hx
    refine hq h' tk' hp.objs.size (fun b o hb ho => ?_) (Nat.le_refl _) hxs.symm ?_ hn'
    · rw [hs.2 b (Nat.ne_of_lt (Heap.lt_size ho)), Heap.get?_update_ne _ _ _ _ hb]
      exact Heap.get?_push_of_some _ ho
    · rw [hs.2 x hxs]
      exact Heap.get?_update_self _ hx₁ rfl
/-- a further field -/
theorem gx_old {dx : Addr} {m0 : Str → Option Value} {nl : List Str} (X : K.In hp) (hx : hp.get? x = some { cls := .ref C, dict := some dx, data := .fields fv }) (hns : hp.Ns1 dx m0) (hw : Within m0 nl) (hz : nl.length ≤ 1000) (hcd : PySem.W.clsIn K C = some cd)
    (pass : ∀ self, refuseLoop self "__setattr__" cd.mro = pure ()) (ob : cd.mro.contains (.type "object") = true) (hh : cd.hasDict = true) (ha : PySem.W.findIn K (.ref C) name = some none)
    (hq : ∀ h' tk', (∀ b o, b ≠ dx → hp.get? b = some o → h'.get? b = some o) → h'.Ns1 dx (fun y => if y = name then some v else m0 y) → R (.ok (.ret .none)) ⟨h', g, d, tk', os⟩) :
    codeAny (model prog w) A (.call (.builtin "object.__setattr__") ⟨[.ref x, .str name tk, v], []⟩) R ⟨hp, g, d, t, os⟩ := by
  obtain ⟨oD, _, _, hoD, _, _⟩ := hns.count hw
  refine gx_front (od := some oD) X ⟨hx, rfl, rfl, hoD⟩ hcd pass ob ha ?_
  have hcls : PySem.W.Looks (model prog w) hp (classData C) cd := PySem.W.looks_clsIn X hcd
  obtain ⟨nm, bs, mro, ns, qn, hd, sn, sb, ab, col, del⟩ := cd
  obtain rfl : hd = true := hh
  unfold storeInOwnDict ownDictForStores
  repeat (first | with_reducible refine PySem.OEX.store_in_old hns hw hz ?_ | with_reducible refine wpAny_loadPart_at hx ?_ | with_reducible refine hcls.at ?_ | wp_step)
  intro h' tk' hn' hs
  exact hq h' tk' (fun b o hb ho => (hs.2 b hb).trans ho) hn'
end

/-! ### the same over the own heap -/
/-- what the written part says of such a class -/
structure GexC (K : PySem.W.Frag) (C : Addr) (B newId i : String) (bmB : List Value) : Prop where
  cls : ∃ nm q N bs bm sn sub ab col dd k0 k1 k2 k3 k5, K.lookup C = some (excClassObj nm q C N bs bm true sn sub ab col dd k0 k1 k2 k3 k5 newId) ∧ Tail bm B newId i bmB
  sa : PySem.W.findIn K (.ref C) "__setattr__" = some (some (.builtin "object.__setattr__"))
  exC : PySem.W.subIn K (.ref C) (.type "BaseException") = some true
  tyC : PySem.W.typeIn K (.ref C) = some (.type "type")
  kC : PySem.W.keepIn K (.ref C) = true
theorem GexC.cd {K : PySem.W.Frag} {C : Addr} {B newId i : String} {bmB : List Value} (T : GexC K C B newId i bmB) : ∃ cd : ClassData, PySem.W.clsIn K C = some cd ∧ cd.hasDict = true ∧ (∀ self, refuseLoop self "__setattr__" cd.mro = pure ()) ∧ cd.mro.contains (.type "object") = true := by
  obtain ⟨nm, q, N, bs, bm, sn, sub, ab, col, dd, k0, k1, k2, k3, k5, hC, tl⟩ := T.cls
  refine ⟨{ name := nm, bases := bs, mro := .ref C :: bm, ns := N, qualname := q, hasDict := true, slotNames := sn, subclasses := sub, abstract := ab, collection := col, hasDel := false }, ?_, rfl, fun self => ?_, ?_⟩
  · unfold PySem.W.clsIn
    rw [hC] <;> rfl
  · show refuseLoop self "__setattr__" (.ref C :: bm) = pure ()
    rw [refuseLoop_ref]
    exact tl.pass self
  · show (Value.ref C :: bm).contains (.type "object") = true
    rw [List.contains_cons, tl.obj, Bool.or_true]
section
variable {X : Cx} {pins : List (Addr × Obj)} {σ : L2.St} {H : Hp} {s : Shared} {a C dx : Addr} {f : Str} {y : V} {u : Value} {fs : List (Str × V)} {Q : Unit → Shared → Prop} {E : Value → Shared → Prop} {A : Around} {B newId i : String} {bmB : List Value}
theorem gst_new (T : GexC X.K C B newId i bmB) (I : Inv X pins σ H s) (e : H a = some (exo a C none)) (hno : PySem.W.findIn X.K (.ref C) f = some none) (ry : RelV y u)
    (h : ∀ dx s', H dx = none → dx ≠ a → Inv X pins σ (upd (upd H dx (exd dx [(f, y)])) a (exo a C (some dx))) s' → Q () s') : wpAny (model X.prog X.w) A (setAttr (.ref a) f u) Q E s := by
  obtain ⟨cd, hcd, hd, pass, ob⟩ := T.cd
  obtain ⟨t1, ho⟩ := exo_at I.hok e
  obtain ⟨hp, g, d, t, os⟩ := s
  refine PySem.W.set_plain (od := none) I.kIn ⟨ho, rfl, rfl, trivial⟩ T.sa (gx_new I.kIn ho hcd pass ob hd hno fun h' tk' dx k dn dne hx hn => ?_)
  have hnd : H dx = none := I.hok.fresh dn
  have nd : ∀ {b : Addr} {o : Obj}, hp.get? b = some o → b ≠ dx := fun {b o} q => Nat.ne_of_lt (Nat.lt_of_lt_of_le (Heap.lt_size q) dn)
  have na : ∀ {b : Addr}, H b = none → b ≠ a := fun {b} n z => by rw [z, e] at n; cases n
  -- what stands elsewhere stays
  have els : ∀ {b : Addr} {o : HO}, H b = some o → b ≠ a → upd (upd H dx (exd dx [(f, y)])) a (exo a C (some dx)) b = some o := fun {b o} q n => by
    rw [upd_ne n, upd_ne (ne_of_none q hnd)]
    exact q
  refine h dx _ hnd dne (I.un (t' := tk') ?_ fun b o q => ?_)
  · refine ⟨fun b o q n _ _ => k b o (na n) q, fun b o q n _ _ => ⟨o.slots, k b o (na n) q⟩, fun b o q n _ => by rw [upd_ne (na n), upd_ne (nd q)]; exact n, fun b o q _ => ?_, fun b xs q => els q (at_ne e q exo_tup), fun b o v q => els q (at_ne e q exo_frz), fun b ps q => ⟨#[], ?_⟩⟩
    · by_cases hb : b = a
      · exact ⟨_, by rw [hb]; exact hx⟩
      · exact ⟨o, k b o hb q⟩
    · rw [els q (at_ne e q exo_tbl)]
      simp
  · by_cases hb : b = a
    · subst hb
      rw [upd_same] at q
      cases q
      exact exo_ok hx
    · rw [upd_ne hb] at q
      by_cases hdx : b = dx
      · subst hdx
        rw [upd_same] at q
        cases q
        exact exd_ok hn (relO_put (fs := []) ry fun g => True.intro)
      · rw [upd_ne hdx] at q
        refine (I.hok b o q).stay (fun c v hc z => k c v (fun w => ?_) z) (fun c hc => els hc (at_ne e hc exo_own)) (fun c xs hc => els hc (at_ne e hc exo_tup))
        rcases hc with hc | hc
        · exact hb (hc.symm.trans w)
        · exact at_ne e hc exo_own w
theorem gst_old (T : GexC X.K C B newId i bmB) (I : Inv X pins σ H s) (e : H a = some (exo a C (some dx))) (ed : H dx = some (exd dx fs)) (hl : fs.length ≤ 900) (hno : PySem.W.findIn X.K (.ref C) f = some none) (ry : RelV y u)
    (h : ∀ s', Inv X pins σ (upd H dx (exd dx ((f, y) :: fs))) s' → Q () s') : wpAny (model X.prog X.w) A (setAttr (.ref a) f u) Q E s := by
  obtain ⟨cd, hcd, hd, pass, ob⟩ := T.cd
  obtain ⟨t1, ho⟩ := exo_at I.hok e
  obtain ⟨mA, hns, rel⟩ := exd_at I.hok ed
  obtain ⟨hp, g, d, t, os⟩ := s
  obtain ⟨oD, _, _, hoD, _, _⟩ := hns.count (within_of rel)
  refine PySem.W.set_plain (od := some oD) I.kIn ⟨ho, rfl, rfl, hoD⟩ T.sa (gx_old I.kIn ho hns (within_of rel) (by rw [List.length_map]; omega) hcd pass ob hd hno fun h' tk' k hn => ?_)
  obtain ⟨o, es, ep, e1, e2⟩ := hn
  exact h _ (I.write (t' := tk') (x := dx) (e := dx) (o := exd dx ((f, y) :: fs)) (by rw [ed]; exact True.intro) (.inl rfl) k ⟨o, e1⟩ (exd_ok ⟨o, es, ep, e1, e2⟩ (relO_put ry rel)))
end
/-- self.f = e on such an error -/
def tGst (K : PySem.W.Frag) (B newId i : String) (bmB : List Value) (f : Str) (to te : TE) : TS := fun D σ H => te σ H fun y H1 => to σ H1 fun x H2 => ∃ a C : Addr, x = .ref a ∧ GexC K C B newId i bmB ∧ PySem.W.findIn K (.ref C) f = some none ∧
  ((H2 a = some (exo a C none) ∧ ∀ dx, H2 dx = none → dx ≠ a → D.nx σ (upd (upd H2 dx (exd dx [(f, y)])) a (exo a C (some dx)))) ∨
    ∃ (dx : Addr) (fs : List (Str × V)), H2 a = some (exo a C (some dx)) ∧ H2 dx = some (exd dx fs) ∧ fs.length ≤ 900 ∧ D.nx σ (upd H2 dx (exd dx ((f, y) :: fs))))
section
variable {X : Cx} {o e : Expr} {es : List Expr} {to te : TE} {ta : TA} {f : Str} {p p' pos : Pos} {B newId i : String} {bmB : List Value}
theorem ps_gst (ho : PE X o to) (he : PE X e te) (hs : swapsWith e (some (.Attribute o f p')) pos.line X.env = pure false := by rfl) : PS X (.Assign [.Attribute o f p'] e pos) (tGst X.K B newId i bmB f to te) := by
  refine ⟨fun pins s σ H D I h => ?_⟩
  refine plainObj_wpAny_Assign_Attribute (thn (he.run pins s σ H _ I h) fun v s1 ⟨y, H1, I1, r1, q1⟩ => thn (ho.run pins s1 σ H1 _ I1 q1) fun u s2 ⟨x, H2, I2, r2, a, C, ex, T, hno, q⟩ => ?_) hs
  subst ex
  obtain rfl : u = Value.ref a := r2
  rcases q with ⟨ea, q⟩ | ⟨dx, fs, ea, ed, hl, q⟩
  · exact gst_new T I2 ea hno r1 fun dx s' n ne J => ⟨σ, _, J, q dx n ne⟩
  · exact gst_old T I2 ea ed hl hno r1 fun s' J => ⟨σ, _, J, q⟩
theorem pmk_gex {CX : CXT} {x : Str} {C fI : Addr} {k : Nat} {fd : FuncData} {ps : List Str} {sp : Sp} {ds : List Value} {dvs : List V} (T : GexC X.K C B newId i bmB) (iC : PySem.W.findIn X.K (.ref C) "__init__" = some (some (.ref fI))) (tI : PySem.W.typeIn X.K (.ref fI) = some (.type "function"))
    (F1 : FnOk X.prog X.w X.K X.mg X.base CX k fI fd ps sp) (hr : Room (k + 1) X.A) (hb : L2.Binds X.K fd ps ds) (hd : Vals dvs ds) (hx : Passes CX X (fun _ _ _ => False)) (hg : Gl X x) (hm : X.mg x = some (.ref C)) (ha : PA X (e :: es) ta)
    (hdb : (x == ("__debug__" : Str)) = false := by decide) (he : starEach (e :: es) X.env = (false, eval e X.env) :: starEach es X.env := by rfl) (hpl : (backTo pos (starEach es X.env)).any (·.1) = false := by rfl) :
    PMk X (.Call (.Name x p) (e :: es) [] pos) (tMkO C sp dvs ta) := by
  intro pins s σ H Q I h
  obtain ⟨nm, q, N, bs, bm, sn, sub, ab, col, dd, k0, k1, k2, k3, k5, hC, tl⟩ := T.cls
  refine wpAny_Call_Name_kw (ld_glob I hg hm ?_ hdb)
  refine PySem.W.callWith_K (h₀ := X.base) I.ok.mod.kin T.kC (thn (ha.run pos pins s σ H _ I h) fun us s1 ⟨vs, H1, I1, r1, hz, q1⟩ => ⟨I1.kIn, ?_⟩) he hpl
  show wpAny _ _ (call (.ref C) us) _ _ _
  obtain ⟨hp, g, dr, tk, os⟩ := s1
  have lt : hp.objs.size ≤ hp.objs.size + 1 := Nat.le_succ _
  have hq := q1 _ (I1.hok.fresh lt)
  have keep : ∀ b o, hp.get? b = some o → ((hp.push (PySem.W.kdv_tup us)).push (PySem.HandSPX.excO C hp.objs.size)).get? b = some o := fun b o z => Heap.get?_push_of_some _ (Heap.get?_push_of_some _ z)
  have at_ : ((hp.push (PySem.W.kdv_tup us)).push (PySem.HandSPX.excO C hp.objs.size)).get? (hp.objs.size + 1) = some (PySem.HandSPX.excO C hp.objs.size) := by heap_get
  have I2 : Inv X pins σ _ ⟨_, g, dr, tk, os⟩ := I1.laid (t' := tk) (a := hp.objs.size + 1) (o := exo (hp.objs.size + 1) C none) keep lt (exo_ok at_)
  have rr : Vals (V.ref (hp.objs.size + 1) :: (vs ++ dvs)) (Value.ref (hp.objs.size + 1) :: (us ++ ds)) := .cons rfl (r1.append hd)
  refine wpAny_call (PySem.HandSPX.call_own tl.fb tl.same (I1.kIn _ _ hC) (PySem.W.looks_findIn I1.kIn iC) (fun self => PySem.W.bind_fn I1.kIn self tI) (by rw [← Paired.length r1, sizeLine_eq]; omega) (codeAny_mono (F1.run _ X.stack _ _ ⟨Value.ref (hp.objs.size + 1) :: us, []⟩ (Value.ref (hp.objs.size + 1) :: (us ++ ds)) _ _ (fun _ _ _ => False) (hr.make C us []) (I2.env0.make C us [])
    (hb _ (Value.ref (hp.objs.size + 1) :: us) I2.kIn (rr.length.symm.trans (F1.len _ _ _ _ hq))) rr hq) fun r s' z => ?_))
  match r, z with
  | .error er, z => exact hx pins σ _ _ er s' I2 z
  | .ok (.ret u), z =>
    obtain ⟨v, H2, os2, bare2, un2, hok2, rv, rfl, d, fs, ea, ed, hd1, q2⟩ := z
    obtain ⟨h2, g2, d2, t2, os'⟩ := s'
    exact ⟨rv, mk_end (raises_own T.exC T.tyC) I1 lt keep un2 hok2 os2 bare2 ea ed hd1 q2⟩
  | .ok .next, z => exact False.elim z
  | .ok .brk, z => exact False.elim z
  | .ok .cont, z => exact False.elim z
end
end VG

set_option maxRecDepth 100000
/-! V11's errors: their __init__, raising, what the head tells. -/
namespace VG
open PySem PySem.Spec PyProof.Rows L2
section
variable {X : Cx} {C fC : Addr} {fdC : FuncData} {k n : Nat} {nm : Str} {B newId i : String} {bmB : List Value}
/-- an own error's class, as its __init__ needs it -/
structure IniG (K : PySem.W.Frag) (C : Addr) (nm : Str) (B newId i : String) (bmB : List Value) : Prop where
  oex : GexC K C B newId i bmB
  cls : ClsTxt K C nm
  own : OwnX K C
theorem pss_iniG (hX : ∀ x j p, X.N[j]? = some x → PE X (.Name x p) (tVar j)) (T : IniG X.K C nm B newId i bmB) (GC : FnOk X.prog X.w X.K X.mg X.base CX0 k fC fdC ["value"] (spCopy X.K n)) (hr : Room k X.A) (hg : Gl X "copied") (mC : X.mg "copied" = some (.ref fC))
    (hk : PySem.W.keepIn X.K (.ref fC) = true) (bC : L2.Binds X.K fdC ["value"] []) :
    ∀ {l : List (Str × Nat)} {ss : List Stmt}, (∀ p ∈ l, p.1 ∈ exFields) → IniSts X.N l ss → PSs X ss (tIni X.K C nm n l) := by
  intro l ss hf hs
  induction hs with
  | code h =>
    refine ⟨fun pins s σ H D I hh => (pss_one (ps_gst (B := B) (newId := newId) (i := i) (bmB := bmB) (hX _ 0 _ h) (pe_clsName (hX _ 0 _ h)))).run pins s σ H D I ?_⟩
    obtain ⟨H0, a, FL, rs, h0, hae, st, ha, hl, q⟩ := hh
    have ex : H a = some (exo a C none) ∨ ∃ (dx : Addr) (fs : List (Str × V)), H a = some (exo a C (some dx)) ∧ H dx = some (exd dx fs) := by
      obtain ⟨fs, _, ⟨_, e⟩ | ⟨dx, _, _, e1, e2⟩⟩ := st.ex
      · exact .inl e
      · exact .inr ⟨dx, fs, e1, e2⟩
    refine ⟨_, h0, a, C, nm, rfl, T.cls, ex, _, h0, a, C, rfl, T.oex, T.own.no _ (by decide), ?_⟩
    refine st.store (R := D.nx) (.str nm) (by have := hl; simp at this; omega) fun G' s' => q G' ?_
    match rs, ha with
    | [], _ => exact s'
  | @fld x y f ix l ss p1 p2 p3 p4 p5 p6 h hy t ih =>
    have ih := ih fun p hp => hf p (List.mem_cons_of_mem _ hp)
    refine ⟨fun pins s σ H D I hh => (pss_cons (ps_gst (B := B) (newId := newId) (i := i) (bmB := bmB) (hX _ 0 _ h) (pe_call GC hr hg mC hk bC .nil pass0 (pa_cons (hX _ ix _ hy) pa_nil))) ih).run pins s σ H D I ?_⟩
    obtain ⟨H0, a, FL, rs, h0, hae, st, ha, hl, q⟩ := hh
    match rs, ha with
    | d :: rs, ⟨⟨x, hx, hd, hfit⟩, ha⟩ =>
      have noxH : Same (nox H0) H := fun b o e => by
        obtain ⟨e1, e2⟩ := of_nox e
        refine st.but b o (fun z => ?_) e1
        rw [z, hae] at e1
        exact e2 _ (Option.some.inj e1).symm
      refine ⟨x, hx, x, d, rfl, Dp.same noxH d x hd, hfit, fun y G1 sm hy' => ⟨_, h0, a, C, rfl, T.oex, T.own.no _ (hf (f, ix) List.mem_cons_self), ?_⟩⟩
      have st1 := st.on sm
      have hy2 : Dp X.K (nox (newer H0 G1)) y d := by
        refine Dp.nox d y (Dp.same (newer_mono (fun b z => ?_) fun _ _ _ e => e) d y hy')
        cases w : H0 b with
        | none => rfl
        | some o =>
          by_cases nb : b = a
          · obtain ⟨fs, _, ⟨_, e⟩ | ⟨dx, _, _, e1, e2⟩⟩ := st.ex
            · rw [nb, e] at z
              cases z
            · rw [nb, e1] at z
              cases z
          · rw [st.but b o nb w] at z
            cases z
      have hl : FL.length + (l.length + 1) ≤ 100 := hl
      refine st1.store (R := (_ : Ends).nx) hy2 (by omega) fun G' s' => ?_
      exact ⟨H0, a, (f, d) :: FL, rs, h0, hae, s', ha, by show FL.length + 1 + l.length ≤ 100; omega, q⟩
end
section
variable {P : Program} {w : World} {K : PySem.W.Frag} {mg : Str → Option Value} {base : Heap} {B i newId : String} {bmB : List Value} {C f cc cda fC : Addr} {qual : Str} {params : Arguments} {rest : List Stmt} {sc : Scope} {fd fdC : FuncData} {ps : List Str} {p0 p1 p2 p3 p4 p5 : Pos} {j k n : Nat} {z nm : Str} {self : Arg} {l : List (Str × Nat)}
theorem ok_iniG (hev : SupEv p0 p1 p2 p3 p4 j z) (T : IniTxt P K mg B i newId bmB C f cc cda qual params (superInit p0 p1 p2 p3 p4 p5 j z :: rest) sc fd) (S : IniScope ps sc) (hself : (params.posonlyargs ++ params.args).head? = some self) (hp0 : ps[0]? = some self.arg)
    (TC : IniG K C nm B newId i bmB) (GC : FnOk P w K mg base CX0 k fC fdC ["value"] (spCopy K n)) (hg : sc.names.lookup ("copied" : Str) = some .globalImplicit) (mC : mg "copied" = some (.ref fC)) (hk : PySem.W.keepIn K (.ref fC) = true) (bC : L2.Binds K fdC ["value"] [])
    (hps : ∀ x ∈ ps, (x == ("__debug__" : Str)) = false ∧ (x == ("__classdict__" : Str)) = false) (hf : ∀ p ∈ l, p.1 ∈ exFields) (hs : IniSts ps l rest) : FnOk P w K mg base CX0 (k + 1) f fd ps (spErr K C nm n ps.length l) := by
  refine ini_ok hev T S hself hp0 (fun vs H Q E h => ?_) fun A outer s H vs Q E hr h => ?_
  · obtain ⟨_, _, _, _, e, _⟩ := h
    exact e
  · obtain ⟨a, xs, rs, rfl, hl, hea, ha, hn, q⟩ := h
    refine ⟨a, xs, rfl, hea, _, pss_iniG (X := iniCx P w K mg base ps qual sc f cda cc A outer s H) (C := C) (nm := nm) (n := n) (fun x i p hx => pe_var hx (.inl (S.par x (List.mem_of_getElem? hx))) (hps x (List.mem_of_getElem? hx)).1 (hps x (List.mem_of_getElem? hx)).2) TC GC hr hg mC hk bC hf hs, ?_⟩
    exact ⟨H, a, [], rs, rfl, hea, Stg.start hea, ha, by show 0 + l.length ≤ 100; omega, q⟩
end
/-- an own error's class C, called by its name: its __init__ keeps its promise -/
structure ErrG (P : Program) (w : World) (K : PySem.W.Frag) (mg : Str → Option Value) (base : Heap) (nm : Str) (flds : List Str) (C : Addr) (k n : Nat) (B newId i : String) (bmB : List Value) : Prop where
  ini : IniG K C nm B newId i bmB
  glob : mg nm = some (.ref C)
  few : flds.length ≤ 100
  run : ∃ (f : Addr) (fd : FuncData) (ps : List Str), PySem.W.findIn K (.ref C) "__init__" = some (some (.ref f)) ∧ PySem.W.typeIn K (.ref f) = some (.type "function") ∧ L2.Binds K fd ps [] ∧ FnOk P w K mg base CX0 k f fd ps (spErr K C nm n (flds.length + 1) (slots 1 flds))
section
variable {X : Cx} {nm : Str} {flds : List Str} {C : Addr} {k n : Nat} {W : WX} {B newId i : String} {bmB : List Value} {e : Expr} {es : List Expr} {ta : TA} {p pos pos2 : Pos}
theorem ps_errG (T : ErrG X.prog X.w X.K X.mg X.base nm flds C k n B newId i bmB) (hc : X.calm = true) (tk : Takes X W) (hr : Room (k + 1) X.A) (hg : Gl X nm) (ha : PA X (e :: es) ta) (n1 : (nm == ("__debug__" : Str)) = false := by decide)
    (n2 : starEach (e :: es) X.env = (false, eval e X.env) :: starEach es X.env := by rfl) (n3 : (backTo pos (starEach es X.env)).any (·.1) = false := by rfl) :
    PS X (.Raise (some (.Call (.Name nm p) (e :: es) [] pos)) none pos2) (tErr X.K C nm flds n W ta) := by
  obtain ⟨f, fd, ps, h1, h2, h3, h4⟩ := T.run
  exact ps_raise hc tk (pmk_gex T.ini.oex h1 h2 h4 hr h3 .nil pass0 hg T.glob ha n1 n2 n3)
end
def clsG (K : PySem.W.Frag) (C : Addr) (nm : Str) (newId : String) (t : List Value) : Bool := match K.lookup C with
  | some ⟨.type tt, _, .cls cd, sl⟩ => decide (tt = "type") && (match cd.mro, sl.toList with
    | .ref C' :: bm, [_, _, some (.str z _), _, some (.builtin n), _] => decide (C' = C) && (decide (z = nm) && (decide (n = newId) && (cd.hasDict && (!cd.hasDel && refsX t bm))))
    | _, _ => false)
  | _ => false
theorem clsG_ok {K : PySem.W.Frag} {C : Addr} {nm : Str} {newId : String} {t : List Value} (h : clsG K C nm newId t = true) : ∃ (name q : Str) (N : Addr) (bs bm : List Value) (sn : List Str) (sub : List Value) (ab : Bool) (col : Option Bool) (dd : Option Addr) (k0 k1 : Option Value) (tk : Tok) (k3 k5 : Option Value),
    K.lookup C = some (excClassObj name q C N bs bm true sn sub ab col dd k0 k1 (some (.str nm tk)) k3 k5 newId) ∧ refsX t bm = true := by
  unfold clsG at h
  split at h
  · rename_i tt dd cd sl e
    obtain ⟨h1, h2⟩ := Bool.and_eq_true_iff.mp h
    have ht : tt = "type" := of_decide_eq_true h1
    split at h2
    · rename_i C' bm a0 a1 z tk a3 n a5 e1 e2
      simp only [Bool.and_eq_true, decide_eq_true_eq, Bool.not_eq_true'] at h2
      obtain ⟨g1, g2, g3, g4, g5, g6⟩ := h2
      subst ht g1 g2
      rw [g3] at e2
      obtain ⟨c1, c2, c3, c4, c5, c6, c7, c8, c9, c10, c11⟩ := cd
      have e1 : c3 = .ref C' :: bm := e1
      have g4 : c6 = true := g4
      have g5 : c11 = false := g5
      subst e1 g4 g5
      have es : sl = #[a0, a1, some (.str z tk), a3, some (.builtin newId), a5] := Array.toList_inj.mp e2
      subst es
      exact ⟨c1, c5, c4, c2, bm, c7, c8, c9, c10, dd, a0, a1, tk, a3, a5, e, g6⟩
    · cases h2
  · cases h
/-- an own error's class: all but its __init__ -/
def errG (K : PySem.W.Frag) (nm : Str) (newId : String) (t : List Value) : Bool := clsG K (He.ga K nm) nm newId t && (nameB K (He.ga K nm) && (ownXB K (He.ga K nm) && (decide (PySem.W.findIn K (.ref (He.ga K nm)) "__setattr__" = some (some (.builtin "object.__setattr__"))) && (decide (PySem.W.subIn K (.ref (He.ga K nm)) (.type "BaseException") = some true) &&
  (decide (PySem.W.typeIn K (.ref (He.ga K nm)) = some (.type "type")) && (PySem.W.keepIn K (.ref (He.ga K nm)) && (decide (PySem.W.findIn K (.ref (He.ga K nm)) "__class__" = some (some (.builtin "object.__class__"))) && (decide (PySem.W.specialIn K (.builtin "object.__class__") "__get__" = some (some (.builtin "getset_descriptor.__get__"))) &&
  (decide (PySem.W.takesIn K (.builtin "object.__class__") = some true) && (decide (PySem.W.mroIn K (He.ga K nm) (.type "object") = some true) && PySem.W.readsIn K (He.ga K nm) (.type "type")))))))))))
theorem errG_ok {K : PySem.W.Frag} {nm : Str} {B newId i : String} {t : List Value} (hb : ∀ bm, refsX t bm = true → Tail bm B newId i t) (h : errG K nm newId t = true) : IniG K (He.ga K nm) nm B newId i t := by
  unfold errG at h
  simp only [Bool.and_eq_true, decide_eq_true_eq] at h
  obtain ⟨h1, h2, h3, h4, h5, h6, h7, h8, h9, h10, h11, h12⟩ := h
  obtain ⟨name, q, N, bs, bm, sn, sub, ab, col, dd, k0, k1, tk, k3, k5, e, g⟩ := clsG_ok h1
  have o := ownX_of h3
  refine ⟨⟨⟨name, q, N, bs, bm, sn, sub, ab, col, dd, k0, k1, _, k3, k5, e, hb _ g⟩, h4, h5, h6, h7⟩, ⟨o.xf.ga, o.xf.gg, h5, ?_, h8, h9, h10, h11, h12, nameB_ok h2, h6, ⟨_, _, _, _, tk, e, rfl⟩⟩, o⟩
  unfold PySem.W.clsIn
  rw [e] <;> rfl
/-- its __init__ -/
def iniG (K : PySem.W.Frag) (nm file : Str) (B i : String) : Bool := decide (PySem.W.findIn K (.ref (He.ga K nm)) "__init__" = some (some (.ref (He.ma K (He.ga K nm) "__init__")))) && (decide (PySem.W.typeIn K (.ref (He.ma K (He.ga K nm) "__init__")) = some (.type "function")) &&
  (decide (PySem.W.ks_superIn K (He.ga K nm) (He.ga K nm) "__init__" = some (some (.builtin i))) && (decide (PySem.W.subIn K (.ref (He.ga K nm)) (.type B) = some true) && (decide (PySem.W.mroIn K (He.ga K nm) (.ref (He.ga K nm)) = some true) &&
  (decide (PySem.W.nsIn K cStatics "thirdparty.any" = some none) && (match K.lookup (He.ma K (He.ga K nm) "__init__") with
    | some ⟨_, _, .func fd, _⟩ => (match fd.code, fd.closure with
      | .ref cda, [(_, cc)] => decide (fd.defaults = .none) && (PySem.W.codeIn K (.ref cda) (nm ++ ".__init__") && ((match K.lookup cda with
          | some ⟨_, _, .fields vs, _⟩ => (match (vs[2]? : Option Value) with
            | some (.str z _) => decide (z = file)
            | _ => false)
          | _ => false) && (match K.lookup cc with
          | some ⟨_, _, .cell (some (.ref C')), _⟩ => decide (C' = He.ga K nm)
          | _ => false)))
      | _, _ => false)
    | _ => false))))))
structure IniOkG (K : PySem.W.Frag) (nm file : Str) (B i : String) : Prop where
  find : PySem.W.findIn K (.ref (He.ga K nm)) "__init__" = some (some (.ref (He.ma K (He.ga K nm) "__init__")))
  typ : PySem.W.typeIn K (.ref (He.ma K (He.ga K nm) "__init__")) = some (.type "function")
  up : PySem.W.ks_superIn K (He.ga K nm) (He.ga K nm) "__init__" = some (some (.builtin i))
  isB : PySem.W.subIn K (.ref (He.ga K nm)) (.type B) = some true
  self : PySem.W.mroIn K (He.ga K nm) (.ref (He.ga K nm)) = some true
  opq : PySem.W.nsIn K cStatics "thirdparty.any" = some none
  fn : ∃ (oc : Value) (od : Option Addr) (fd : FuncData) (osl : Array (Option Value)) (cda cc : Addr) (x : Str), K.lookup (He.ma K (He.ga K nm) "__init__") = some ⟨oc, od, .func fd, osl⟩ ∧ fd.code = .ref cda ∧ fd.closure = [(x, cc)] ∧ fd.defaults = .none ∧
    PySem.W.codeIn K (.ref cda) (nm ++ ".__init__") = true ∧ (∃ ccl cdd vs ccs tf, K.lookup cda = some ⟨ccl, cdd, .fields vs, ccs⟩ ∧ vs[2]? = some (.str file tf)) ∧ ∃ cl cld csl, K.lookup cc = some ⟨cl, cld, .cell (some (.ref (He.ga K nm))), csl⟩
theorem iniG_ok {K : PySem.W.Frag} {nm file : Str} {B i : String} (h : iniG K nm file B i = true) : IniOkG K nm file B i := by
  unfold iniG at h
  simp only [Bool.and_eq_true, decide_eq_true_eq] at h
  obtain ⟨h1, h2, h3, h4, h5, h6, h7⟩ := h
  refine ⟨h1, h2, h3, h4, h5, h6, ?_⟩
  split at h7
  · rename_i oc od fd osl e
    split at h7
    · rename_i cda x cc e1 e2
      simp only [Bool.and_eq_true, decide_eq_true_eq] at h7
      obtain ⟨g1, g2, g3, g4⟩ := h7
      refine ⟨oc, od, fd, osl, cda, cc, x, e, e1, e2, g1, g2, ?_, ?_⟩
      · split at g3
        · rename_i ccl cdd vs ccs ec
          split at g3
          · rename_i z tf ez
            rw [of_decide_eq_true g3] at ez
            exact ⟨ccl, cdd, vs, ccs, tf, ec, ez⟩
          · cases g3
        · cases g3
      · split at g4
        · rename_i cl cld C' csl ec
          rw [of_decide_eq_true g4] at ec
          exact ⟨cl, cld, csl, ec⟩
        · cases g4
    · cases h7
  · cases h7
section
variable {P : Program} {w : World} {K : PySem.W.Frag} {mg : Str → Option Value} {base : Heap}
theorem errG_of {B newId i : String} {bmB : List Value} {nm : Str} {flds ps : List Str} {st : Stmt} {rest : List Stmt} {p0 p1 p2 p3 p4 p5 : Pos} {j k n : Nat} {z : Str} {self : Arg} {fC : Addr} {fdC : FuncData} (ini : fnI K (IniD.at_ ⟨nm, st⟩) = IniD.val ⟨nm, st⟩) (kf : PySem.W.KxsFacts B i) (I : IniOkG K nm P.main.file B i) (E : IniG K (He.ga K nm) nm B newId i bmB) (glob : mg nm = some (.ref (He.ga K nm)))
    (hev : SupEv p0 p1 p2 p3 p4 j z) (hb : defBody st = superInit p0 p1 p2 p3 p4 p5 j z :: rest) (S : IniScope ps (defScope st)) (hself : ((defArgs st).posonlyargs ++ (defArgs st).args).head? = some self) (hp0 : ps[0]? = some self.arg)
    (GC : FnOk P w K mg base CX0 k fC fdC ["value"] (spCopy K n)) (hg : (defScope st).names.lookup ("copied" : Str) = some .globalImplicit) (mC : mg "copied" = some (.ref fC)) (hk : PySem.W.keepIn K (.ref fC) = true) (bC : L2.Binds K fdC ["value"] [])
    (hps : ∀ x ∈ ps, (x == ("__debug__" : Str)) = false ∧ (x == ("__classdict__" : Str)) = false) (hf : ∀ f ∈ flds, f ∈ exFields) (few : flds.length ≤ 100) (hl : ps.length = flds.length + 1) (hs : IniSts ps (slots 1 flds) rest) (sup : mg "super" = none) (top : (P.main.scope.names.lookup ("super" : Str)).isSome = false)
    (binds : ∀ (q : Str) (kV doc pm cdv ct : Value) (an : Option Addr) (cc : Addr) (us : List Value), us.length = ps.length → bindArgs (PySem.W.ksFn "__init__" q (defArgs st) (defBody st) (defScope st) .none kV doc pm an cdv ct cc) ⟨us, []⟩ = pure (ps.zip us)) :
    ErrG P w K mg base nm flds (He.ga K nm) (k + 1) n B newId i bmB := by
  obtain ⟨oc, od, fd, osl, cda, cc, x, e, e1, e2, e3, g2, g3, g4⟩ := I.fn
  have e0 : K.lookup (He.fAd K (IniD.at_ ⟨nm, st⟩)) = some ⟨oc, od, .func fd, osl⟩ := e
  unfold fnI at ini
  rw [e0] at ini
  obtain ⟨f1, f2, f3, f4, f5, f6, f7, f8, f9, f10, f11, f12, f13, f14, f15⟩ := fd
  have ini : (some (f1, f2, f3, f4, f5, f6, f7.map (·.1), f15) : FnI) = (some (("__init__" : Str), IniD.qual ⟨nm, st⟩, defArgs st, FuncBody.stmts (defBody st), defScope st, mainGlobals, [("__class__" : Str)], builtinsNs) : FnI) := ini
  simp only [Option.some.injEq, Prod.mk.injEq] at ini
  obtain ⟨rfl, rfl, rfl, rfl, rfl, rfl, ec, rfl⟩ := ini
  have e1 : f13 = .ref cda := e1
  have e2 : f7 = [(x, cc)] := e2
  have e3 : f8 = .none := e3
  subst e1 e2 e3
  have ex : x = "__class__" := by
    have z := List.cons.inj ec
    exact z.1
  subst ex
  obtain ⟨name, q, N, bs, bm, sn, sub, ab, col, dd, k0, k1, k2, k3, k5, lC, hbm⟩ := E.oex.cls
  have T : IniTxt P K mg B i newId bmB (He.ga K nm) (He.ma K (He.ga K nm) "__init__") cc cda (IniD.qual ⟨nm, st⟩) (defArgs st) (superInit p0 p1 p2 p3 p4 p5 j z :: rest) (defScope st)
      (PySem.W.ksFn "__init__" (IniD.qual ⟨nm, st⟩) (defArgs st) (defBody st) (defScope st) .none f9 f10 f11 f12 (.ref cda) f14 cc) := by
    refine ⟨kf, hbm.fb, ⟨oc, od, .none, f9, f10, f11, f12, f14, osl, by rw [hb], e⟩, g2, g3, g4, ⟨name, q, N, bs, bm, true, sn, sub, ab, col, dd, k0, k1, k2, k3, k5, lC⟩, I.up, I.isB, I.self, I.opq, sup, top⟩
  have ok := ok_iniG (n := n) (nm := nm) (l := slots 1 flds) hev T S hself hp0 E GC hg mC hk bC hps (fun p hp => ?_) hs
  · rw [hl] at ok
    exact ⟨E, glob, few, _, _, ps, I.find, I.typ, .all (fun us hus => binds _ _ _ _ _ _ _ _ us hus), ok⟩
  · have key : ∀ (l : List Str) (u : Nat), (∀ f ∈ l, f ∈ exFields) → ∀ p ∈ slots u l, p.1 ∈ exFields := by
      intro l
      induction l with
      | nil => intro u _ p hp; cases hp
      | cons f l ih =>
        intro u h p hp
        rcases List.mem_cons.mp hp with e | hp
        · rw [e]
          exact h f List.mem_cons_self
        · exact ih (u + 1) (fun g hg => h g (List.mem_cons_of_mem _ hg)) p hp
    exact key flds 1 hf p hp
end

/-! ### the base LookupError -/
abbrev leTail : List Value := [.type "LookupError", .type "Exception", .type "BaseException", .type "object"]
theorem tailLE : ∀ bm, refsX leTail bm = true → Tail bm "LookupError" "LookupError.__new__" "LookupError.__init__" leTail := refsX_tail F.excBase_LookupError F.store_LookupError.passes (by decide +kernel)
abbrev ErrL (P : Program) (w : World) (K : PySem.W.Frag) (mg : Str → Option Value) (base : Heap) (nm : Str) (flds : List Str) (C : Addr) (k n : Nat) : Prop := ErrG P w K mg base nm flds C k n "LookupError" "LookupError.__new__" "LookupError.__init__" leTail
abbrev errLB (K : PySem.W.Frag) (nm : Str) : Bool := errG K nm "LookupError.__new__" leTail
abbrev iniLB (K : PySem.W.Frag) (nm file : Str) : Bool := iniG K nm file "LookupError" "LookupError.__init__"
end VG

set_option maxRecDepth 100000
set_option maxHeartbeats 2000000
/-! Own errors as values: made by their classes (positional values, keywords, or none), their fields read, isinstance. -/
namespace VG
open PySem PySem.Spec PySem.Calls PyProof.Rows L2 PySem.HandSPX
section
variable {M : Model} {A : Around} {E : Value → Shared → Prop} {h : Heap} {g : Array GenState} {d : Drawn} {t : Nat} {os : OsState}
variable {nm q : Str} {C N : Addr} {bs bm bmB : List Value} {hdct : Bool} {sn : List Str} {sub : List Value} {ab : Bool} {col : Option Bool} {dd : Option Addr} {k0 k1 k2 k3 k5 : Option Value} {B newId initId : String}
theorem check_new_ownK (F : ExcBaseFacts B newId initId bmB) (hT : ∀ X : String, bm.contains (.type X) = bmB.contains (.type X)) {rest : List Value} {kw : List (Str × Value)} {Q : Unit → Shared → Prop}
    (hC : h.get? C = some (excClassObj nm q C N bs bm hdct sn sub ab col dd k0 k1 k2 k3 k5 newId)) (hq : Q () ⟨h, g, d, t, os⟩) : wpAny M A (checkBuiltinCall newId ⟨.ref C :: rest, kw⟩) Q E ⟨h, g, d, t, os⟩ := by
  have hcont : (Value.ref C :: bm).contains (.type B) = true := by rw [List.contains_cons, hT, F.hasB, Bool.or_true]
  have hstar := F.noStar
  simp only [checkBuiltinCall, F.newKind, F.newSplit, F.newRow]
  repeat (first | refine wpAny_loadPart_at hC ?_ | (refine wpAny_isSubtype_exc hC ?_; rw [hcont]) | refine wpAny_staticBase_exc hC ?_ | refine wpAny_madeBy_exc hC ?_ | simp only [bne_self_eq_false, Bool.false_eq_true, if_false] | wp_step)
  exact hq
theorem check_type_callK {rest : List Value} {kw : List (Str × Value)} {Q : Unit → Shared → Prop} (hC : h.get? C = some (excClassObj nm q C N bs bm hdct sn sub ab col dd k0 k1 k2 k3 k5 newId))
    (hq : Q () ⟨h, g, d, t, os⟩) : wpAny M A (checkBuiltinCall "type.__call__" ⟨.ref C :: rest, kw⟩) Q E ⟨h, g, d, t, os⟩ := by
  have f3 := tc_sub
  have hT : (⟨h, g, d, t, os⟩ : Shared).TypeIs (.ref C) "type" := ⟨_, hC, rfl⟩
  simp only [checkBuiltinCall, tc_kind, tc_split]
  repeat (any_goals (first | assumption | with_reducible refine wpAny_loadPart_at hC ?_ | with_reducible refine wpAny_onRaise ?_ | with_reducible refine wpAny_map ?_ | wp_step))
end
section
variable {prog : Program} {w : World} {A : Around} {E : Value → Shared → Prop} {R : Result → Shared → Prop} {h : Heap} {g : Array GenState} {d : Drawn} {t : Nat} {os : OsState}
variable {nm q : Str} {C N : Addr} {bs bm bmB : List Value} {hdct : Bool} {sn : List Str} {sub : List Value} {ab : Bool} {col : Option Bool} {dd : Option Addr} {k0 k1 k2 k3 k5 : Option Value} {B newId initId : String}
theorem new_ownK (F : ExcBaseFacts B newId initId bmB) (hT : ∀ X : String, bm.contains (.type X) = bmB.contains (.type X)) {rest : List Value} {kw : List (Str × Value)}
    (hC : h.get? C = some (excClassObj nm q C N bs bm hdct sn sub ab col dd k0 k1 k2 k3 k5 newId))
    (hq : R (.ok (.ret (.ref (h.objs.size + 1)))) ⟨(h.push { cls := .type "tuple", data := .seq rest.toArray }).push (excO C h.objs.size), g, d, t, os⟩) (hrest : rest.length ≤ sizeLine) :
    codeAny (model prog w) A (.builtin newId ⟨.ref C :: rest, kw⟩) R ⟨h, g, d, t, os⟩ := by
  have hends := F.ends
  have hcB : (Value.ref C :: bm).contains (.type B) = true := by rw [List.contains_cons, hT, F.hasB, Bool.or_true]
  have hcA : (Value.ref C :: bm).contains (.type "AttributeError") = false := by rw [List.contains_cons, hT, F.noAttr]; rfl
  have hcN : (Value.ref C :: bm).contains (.type "NameError") = false := by rw [List.contains_cons, hT, F.noName]; rfl
  refine codeAny_builtinAt F.entry ?_
  unfold Builtin.«BaseException.__new__»
  refine PySem.wpAt_bind ?_
  show PySem.wpAt _ _ _ (stack >>= _) _ _ _
  refine PySem.wpAt_bind (PySem.wpAt_stack fun p below => wpAt_of_wpAny ?_)
  wp_walk
  refine wpAt_of_wpAny ?_
  rw [F.owner]
  repeat (first | with_reducible refine wpAny_madeHere_exc F.canon hC ?_ | with_reducible refine wpAny_loadPart_at hC ?_ | (with_reducible refine wpAny_isSubtype_exc hC ?_; first | rw [hcB] | rw [hcA] | rw [hcN]) | wp_step)
  show R _ _
  rw [Heap.size_push]
  exact hq
theorem type_call_ownK (F : ExcBaseFacts B newId initId bmB) (hT : ∀ X : String, bm.contains (.type X) = bmB.contains (.type X)) {rest : List Value} {kw : List (Str × Value)} {fI : Addr} {Q : Fin → Shared → Prop}
    (hC : h.get? C = some (excClassObj nm q C N bs bm hdct sn sub ab col dd k0 k1 k2 k3 k5 newId))
    (hi : W.Looks (model prog w) h (typeLookup (.ref C) "__init__") (some (.ref fI))) (hb : ∀ self, W.Looks (model prog w) h (bindSpecial (.ref fI) self) (.ref fI, [self])) (hrest : rest.length ≤ sizeLine)
    (hq : codeAny (model prog w) A (.call (.ref fI) ⟨.ref (h.objs.size + 1) :: rest, kw⟩)
      (fun r s' => match r with | .ok (.ret v) => v = .none ∧ Q (.done (.ret (.ref (h.objs.size + 1)))) s' | .ok _ => False | .error e => E e s')
      ⟨(h.push (W.kdv_tup rest)).push (excO C h.objs.size), g, d, t, os⟩) :
    wpAny (model prog w) A (Builtin.«type.__call__» ⟨.ref C :: rest, kw⟩) Q E ⟨h, g, d, t, os⟩ := by
  repeat (first | with_reducible refine wpAny_loadPart_at hC ?_ | with_reducible refine wpAny_madeBy_exc hC ?_ | wp_step)
  refine codeAny_call_builtin_code (Code.quiet_builtin _ F.quiet) (check_new_ownK F hT hC ?_)
  refine new_ownK F hT hC ?_ hrest
  show wpAny _ _ _ _ _ _
  have k : ∀ b o, h.get? b = some o → ((h.push (W.kdv_tup rest)).push (excO C h.objs.size)).get? b = some o := fun b o e => Heap.get?_push_of_some _ (Heap.get?_push_of_some _ e)
  have hC₁ := k _ _ hC
  have hget : ((h.push (W.kdv_tup rest)).push (excO C h.objs.size)).get? (h.objs.size + 1) = some (excO C h.objs.size) := by heap_get
  have hcC : (Value.ref C :: bm).contains (.ref C) = true := by simp
  have i1 := hi.keeps k
  have b1 := (hb (.ref (h.objs.size + 1))).keeps k
  unfold isInstance
  repeat (first | with_reducible refine wpAny_loadPart_at hget ?_ | (with_reducible refine wpAny_isSubtype_exc hC₁ ?_; rw [hcC]) | wp_step)
  show wpAny _ _ (typeLookup (.ref C) _) _ _ _
  refine i1.at ?_
  refine wpAny_holding (wpAny_bind (b1.at ?_))
  refine wpAny_bind (wpAny_call (codeAny_mono hq fun r s' z => ?_))
  rcases r with e | (v | _ | _ | _) <;> first | exact z | exact z.elim | skip
  obtain ⟨rfl, z⟩ := z
  first
    | exact wpAny_pure (wpAny_pure z)
    | (wp_walk; exact z)
theorem call_ownK (F : ExcBaseFacts B newId initId bmB) (hT : ∀ X : String, bm.contains (.type X) = bmB.contains (.type X)) {rest : List Value} {kw : List (Str × Value)} {fI : Addr}
    (hC : h.get? C = some (excClassObj nm q C N bs bm hdct sn sub ab col dd k0 k1 k2 k3 k5 newId))
    (hi : W.Looks (model prog w) h (typeLookup (.ref C) "__init__") (some (.ref fI))) (hb : ∀ self, W.Looks (model prog w) h (bindSpecial (.ref fI) self) (.ref fI, [self])) (hrest : rest.length ≤ sizeLine)
    (hq : codeAny (model prog w) (A.under (.builtin "type.__call__" ⟨.ref C :: rest, kw⟩)) (.call (.ref fI) ⟨.ref (h.objs.size + 1) :: rest, kw⟩) (W.InitBack (h.objs.size + 1) R)
      ⟨(h.push (W.kdv_tup rest)).push (excO C h.objs.size), g, d, t, os⟩) :
    codeAny (model prog w) A (.call (.ref C) ⟨rest, kw⟩) R ⟨h, g, d, t, os⟩ := by
  have f1 := tc_lookup
  have f2 := tc_bind (.ref C)
  have hTy : (⟨h, g, d, t, os⟩ : Shared).TypeIs (.ref C) "type" := ⟨_, hC, rfl⟩
  refine codeAny_of_tree ?_
  show wpAny _ _ (callAny (.ref C) _) _ _ _
  repeat (any_goals (first | assumption | with_reducible refine wpAny_loadPart_at hC ?_ | wp_step))
  refine ⟨rfl, ?_⟩
  refine codeAny_call_builtin_at (Code.quiet_builtin _ (by decide +kernel)) entry_typeCall (check_type_callK hC (type_call_ownK F hT hC hi hb hrest ?_))
  refine codeAny_mono hq fun r s' z => ?_
  rcases r with e | (v | _ | _ | _) <;> exact z
end

/-! ### made -/
/-- C(..): a new error, then __init__ -/
def tGex (C : Addr) (n m : Nat) (sp : Sp) (gV : List V → List V → List V) (t tk : TA) : TE := fun σ H Q => t σ H fun vs H1 => tk σ H1 fun zs H2 => vs.length = n ∧ zs.length = m ∧ vs.length ≤ 1000 ∧ ∀ a, H2 a = none →
  sp (gV (.ref a :: vs) zs) (upd H2 a (exo a C none)) (fun v H3 => v = .non ∧ Q (.ref a) H3) (fun _ _ _ => False)
section
variable {X : Cx} {CX : CXT} {k n : Nat} {fI C : Addr} {fd : FuncData} {ps ks : List Str} {sp : Sp} {x : Str} {p pos : Pos} {e : Expr} {es : List Expr} {kws : List Keyword} {t tk : TA} {g : List Value → List Value → List Value} {gV : List V → List V → List V} {B newId i : String} {bmB : List Value}
theorem run_gex {pins : List (Addr × Obj)} {σ : L2.St} {H : Hp} {s : Shared} {Q : VK} {us ws : List Value} {vs zs : List V} (T : GexC X.K C B newId i bmB) (iC : PySem.W.findIn X.K (.ref C) "__init__" = some (some (.ref fI))) (tI : PySem.W.typeIn X.K (.ref fI) = some (.type "function"))
    (F : FnOk X.prog X.w X.K X.mg X.base CX k fI fd ps sp) (hr : Room (k + 1) X.A) (hb : KBn X.K fd ps (n + 1) ks g gV) (hx : Passes CX X (fun _ _ _ => False)) (I : Inv X pins σ H s) (r : Vals vs us) (rz : Vals zs ws) (l1 : vs.length = n) (l2 : zs.length = ks.length) (l3 : vs.length ≤ 1000)
    (h : ∀ a, H a = none → sp (gV (.ref a :: vs) zs) (upd H a (exo a C none)) (fun v H2 => v = .non ∧ Q (.ref a) H2) (fun _ _ _ => False)) :
    wpAny (model X.prog X.w) X.A (call (.ref C) us (ks.zip ws)) (EP X pins σ Q) X.xe s := by
  obtain ⟨nm, q, N, bs, bm, sn, sub, ab, col, dd, k0, k1, k2, k3, k5, hC, tl⟩ := T.cls
  obtain ⟨hp, g1, dr, tk, os⟩ := s
  have lt : hp.objs.size ≤ hp.objs.size + 1 := Nat.le_succ _
  have hq := h _ (I.hok.fresh lt)
  have keep : ∀ b o, hp.get? b = some o → ((hp.push (PySem.W.kdv_tup us)).push (PySem.HandSPX.excO C hp.objs.size)).get? b = some o := fun b o z => Heap.get?_push_of_some _ (Heap.get?_push_of_some _ z)
  have at_ : ((hp.push (PySem.W.kdv_tup us)).push (PySem.HandSPX.excO C hp.objs.size)).get? (hp.objs.size + 1) = some (PySem.HandSPX.excO C hp.objs.size) := by heap_get
  have I2 : Inv X pins σ _ ⟨_, g1, dr, tk, os⟩ := I.laid (t' := tk) (a := hp.objs.size + 1) (o := exo (hp.objs.size + 1) C none) keep lt (exo_ok at_)
  have r1 : Vals (V.ref (hp.objs.size + 1) :: vs) (Value.ref (hp.objs.size + 1) :: us) := .cons rfl r
  have r2 := hb.rel r1 rz
  have n1 : (Value.ref (hp.objs.size + 1) :: us).length = n + 1 := by
    rw [List.length_cons, ← r.length, l1]
  refine wpAny_call (call_ownK tl.fb tl.same (I.kIn _ _ hC) (PySem.W.looks_findIn I.kIn iC) (fun self => PySem.W.bind_fn I.kIn self tI) (by rw [← Paired.length r, sizeLine_eq]; omega) (codeAny_mono (F.run _ X.stack _ _ ⟨Value.ref (hp.objs.size + 1) :: us, ks.zip ws⟩ (g (Value.ref (hp.objs.size + 1) :: us) ws) _ _ (fun _ _ _ => False) (hr.make C us (ks.zip ws)) (I2.env0.make C us (ks.zip ws))
    (hb.to _ (Value.ref (hp.objs.size + 1) :: us) ws I2.kIn n1 (rz.length.symm.trans l2)) r2 hq) fun rr s' z => ?_))
  cases rr with
  | error er => exact hx pins σ _ _ er s' I2 z
  | ok fl =>
    cases fl with
    | ret u =>
      obtain ⟨v, H', I3, rv, ev, q3⟩ := I2.after z
      subst ev
      exact ⟨rv, ⟨V.ref (hp.objs.size + 1), H', I3, rfl, q3⟩⟩
    | next => exact False.elim z
    | brk => exact False.elim z
    | cont => exact False.elim z
theorem pe_gexK0 (T : GexC X.K C B newId i bmB) (iC : PySem.W.findIn X.K (.ref C) "__init__" = some (some (.ref fI))) (tI : PySem.W.typeIn X.K (.ref fI) = some (.type "function"))
    (F : FnOk X.prog X.w X.K X.mg X.base CX k fI fd ps sp) (hr : Room (k + 1) X.A) (hg : Gl X x) (hm : X.mg x = some (.ref C)) (hb : KBn X.K fd ps 1 ks g gV) (hx : Passes CX X (fun _ _ _ => False)) (hkw : PK X kws tk)
    (hall : (backToKw pos (keywordEach kws X.env)).all (·.1.isSome) = true := by rfl) (hks : (backToKw pos (keywordEach kws X.env)).filterMap (·.1) = ks := by rfl) (hdb : (x == ("__debug__" : Str)) = false := by decide)
    (hpl : ((backTo pos (starEach [] X.env)).any (·.1) || (backToKw pos (keywordEach kws X.env)).any (·.1.isNone)) = false := by rfl) :
    PE X (.Call (.Name x p) [] kws pos) (tGex C 0 ks.length sp gV tNil tk) := by
  refine ⟨fun pins s σ H Q I h => ?_⟩
  refine wpAny_Call_Name_kw (ld_glob I hg hm ?_ hdb)
  refine PySem.W.callWith_KW0 (h₀ := X.base) I.ok.mod.kin T.kC hall ?_ hpl
  refine thn (hkw.run pos pins s σ H _ I h) fun ws s2 ⟨zs, H2, I2, rz, l1, l2, l3, q2⟩ => ⟨I2.kIn, ?_⟩
  rw [hks]
  exact run_gex (us := []) (vs := []) T iC tI F hr hb hx I2 .nil rz rfl l2 l3 q2
theorem pe_gexK (T : GexC X.K C B newId i bmB) (iC : PySem.W.findIn X.K (.ref C) "__init__" = some (some (.ref fI))) (tI : PySem.W.typeIn X.K (.ref fI) = some (.type "function"))
    (F : FnOk X.prog X.w X.K X.mg X.base CX k fI fd ps sp) (hr : Room (k + 1) X.A) (hg : Gl X x) (hm : X.mg x = some (.ref C)) (hb : KBn X.K fd ps (n + 1) ks g gV) (hx : Passes CX X (fun _ _ _ => False)) (ha : PA X (e :: es) t) (hkw : PK X kws tk)
    (hall : (backToKw pos (keywordEach kws X.env)).all (·.1.isSome) = true := by rfl) (hks : (backToKw pos (keywordEach kws X.env)).filterMap (·.1) = ks := by rfl) (hdb : (x == ("__debug__" : Str)) = false := by decide)
    (he : starEach (e :: es) X.env = (false, eval e X.env) :: starEach es X.env := by rfl) (hpl : ((backTo pos (starEach (e :: es) X.env)).any (·.1) || (backToKw pos (keywordEach kws X.env)).any (·.1.isNone)) = false := by rfl) :
    PE X (.Call (.Name x p) (e :: es) kws pos) (tGex C n ks.length sp gV t tk) := by
  refine ⟨fun pins s σ H Q I h => ?_⟩
  refine wpAny_Call_Name_kw (ld_glob I hg hm ?_ hdb)
  refine PySem.W.callWith_KW (h₀ := X.base) I.ok.mod.kin T.kC hall (thn (ha.run pos pins s σ H _ I h) fun us s1 ⟨vs, H1, I1, r, q⟩ => ?_) hpl he
  refine thn (hkw.run pos pins s1 σ H1 _ I1 q) fun ws s2 ⟨zs, H2, I2, rz, l1, l2, l3, q2⟩ => ⟨I2.kIn, ?_⟩
  rw [hks]
  exact run_gex T iC tI F hr hb hx I2 r rz l1 l2 l3 q2
theorem pe_gex (T : GexC X.K C B newId i bmB) (iC : PySem.W.findIn X.K (.ref C) "__init__" = some (some (.ref fI))) (tI : PySem.W.typeIn X.K (.ref fI) = some (.type "function"))
    (F : FnOk X.prog X.w X.K X.mg X.base CX k fI fd ps sp) (hr : Room (k + 1) X.A) (hg : Gl X x) (hm : X.mg x = some (.ref C)) (hb : KBn X.K fd ps (n + 1) [] g gV) (hx : Passes CX X (fun _ _ _ => False)) (ha : PA X (e :: es) t)
    (hdb : (x == ("__debug__" : Str)) = false := by decide) (he : starEach (e :: es) X.env = (false, eval e X.env) :: starEach es X.env := by rfl) (hpl : (backTo pos (starEach es X.env)).any (·.1) = false := by rfl) :
    PE X (.Call (.Name x p) (e :: es) [] pos) (tGex C n 0 sp gV t tNil) := by
  refine ⟨fun pins s σ H Q I h => ?_⟩
  refine wpAny_Call_Name_kw (ld_glob I hg hm ?_ hdb)
  refine PySem.W.callWith_K (h₀ := X.base) I.ok.mod.kin T.kC (thn (ha.run pos pins s σ H _ I h) fun us s1 ⟨vs, H1, I1, r, q⟩ => ⟨I1.kIn, ?_⟩) he hpl
  obtain ⟨l1, l2, l3, q2⟩ := q
  exact run_gex (ks := []) (ws := []) (zs := []) T iC tI F hr hb hx I1 r .nil l1 rfl l3 q2
theorem pe_gex0 (T : GexC X.K C B newId i bmB) (iC : PySem.W.findIn X.K (.ref C) "__init__" = some (some (.ref fI))) (tI : PySem.W.typeIn X.K (.ref fI) = some (.type "function"))
    (F : FnOk X.prog X.w X.K X.mg X.base CX k fI fd ps sp) (hr : Room (k + 1) X.A) (hg : Gl X x) (hm : X.mg x = some (.ref C)) (hb : KBn X.K fd ps 1 [] g gV) (hx : Passes CX X (fun _ _ _ => False))
    (hdb : (x == ("__debug__" : Str)) = false := by decide) : PE X (.Call (.Name x p) [] [] pos) (tGex C 0 0 sp gV tNil tNil) := by
  refine ⟨fun pins s σ H Q I h => ?_⟩
  refine wpAny_Call_Name_kw (ld_glob I hg hm ?_ hdb)
  obtain ⟨l1, l2, l3, q2⟩ := h
  exact PySem.W.callWith_K0 I.kIn T.kC (run_gex (us := []) (vs := []) (ks := []) (ws := []) (zs := []) T iC tI F hr hb hx I .nil .nil rfl rfl l3 q2)
end

/-! ### its fields, its class -/
/-- an own error stands at a -/
def XoAt (H : Hp) (a C : Addr) (fs : List (Str × V)) : Prop := ∃ dd, H a = some (exo a C (some dd)) ∧ H dd = some (exd dd fs)
theorem XoAt.same {H H' : Hp} {a C : Addr} {fs : List (Str × V)} (s : Same H H') (h : XoAt H a C fs) : XoAt H' a C fs := by
  obtain ⟨dd, h1, h2⟩ := h
  exact ⟨dd, s _ _ h1, s _ _ h2⟩
theorem xo_inst {X : Cx} {pins : List (Addr × Obj)} {σ : L2.St} {H : Hp} {s : Shared} {a C : Addr} {fs : List (Str × V)} (I : Inv X pins σ H s) (h : XoAt H a C fs) :
    ∃ ox od, PySem.W.InstAt s.heap a ox C (some od) ∧ ∀ f v, fs.lookup f = some v → ∃ u, PySem.W.lookIn f od = some (some u) ∧ RelV v u := by
  obtain ⟨dd, ea, ed⟩ := h
  obtain ⟨t1, ho⟩ := exo_at I.hok ea
  obtain ⟨mA, hns, rel⟩ := exd_at I.hok ed
  obtain ⟨od, hod, hl⟩ := lookIn_ns hns
  refine ⟨_, od, ⟨ho, rfl, rfl, hod⟩, fun f v e => ?_⟩
  obtain ⟨u, hu, ru⟩ := RelO.some_of (v := v) (o := mA f) (by rw [← e]; exact rel f)
  exact ⟨u, by rw [hl, hu], ru⟩
def tXo (K : PySem.W.Frag) (f : Str) (te : TE) : TE := fun σ H Q => te σ H fun x H1 => ∃ (a C : Addr) (fs : List (Str × V)) (v : V), x = .ref a ∧ OwnX K C ∧ XoAt H1 a C fs ∧ fs.lookup f = some v ∧ Q v H1
theorem pe_xo {X : Cx} {e : Expr} {te : TE} {pos : Pos} {n : Str} (hn : n ∈ exFields) (he : PE X e te) (hb : attributeBase e n X.env (eval e X.env) = eval e X.env := by rfl) : PE X (.Attribute e n pos) (tXo X.K n te) := by
  refine ⟨fun pins s σ H Q I h => attr_of hb (thn (he.run pins s σ H _ I h) fun u s1 hh => ?_)⟩
  obtain ⟨x, H1, I1, rx, a, C, fs, v, ex, T, hx, l, q⟩ := hh
  subst ex
  obtain rfl : u = Value.ref a := rx
  obtain ⟨ox, od, J, hl⟩ := xo_inst I1 hx
  obtain ⟨u, hu, ru⟩ := hl n v l
  exact HandSPX.exc_get I1.kIn J T.xf.ga T.xf.gg T.xf.exC (PySem.W.findObj_own T.xf.hdC (T.no n hn) rfl hu) (handed_of ru) ⟨v, H1, I1.tok _, ru, q⟩
/-- isinstance(x, c), x an own error -/
def rIsX (K : PySem.W.Frag) : List V → Hp → VK → Prop := fun xs H Q => ∃ (a C : Addr) (fs : List (Str × V)) (nm : Str) (c : V) (cv : Value) (b : Bool), xs = [.ref a, c] ∧ XoAt H a C fs ∧ ClsTxt K C nm ∧ ClsV c cv ∧ PySem.W.kitOne K (.ref C) cv = some b ∧ Q (.bl b) H
theorem call_isX {X : Cx} : CallR X (.builtin "isinstance") (rIsX X.K) := by
  intro pins s σ H xs us Q I r h
  obtain ⟨a, C, fs, nm, c, cv, b, rfl, hx, T, hcv, e, q⟩ := h
  cases r with
  | cons rx rr =>
    cases rr with
    | cons rt rr =>
      cases rr
      cases rx
      have ec := hcv.eq rt
      subst ec
      obtain ⟨ox, od, J, _⟩ := xo_inst I hx
      exact PySem.W.kia_one (PySem.W.kitx_exc T.isC T.ga T.gg T.exC T.ca T.cn T.ct T.cm) I.kIn J e (fun z => nomatch z) fun tk => ⟨.bl b, H, I.kept (t' := tk) fun _ _ z => z, rfl, q⟩
end VG

set_option maxRecDepth 100000
/-! The fields of an own error that stands in the heap, by its code. -/
namespace VG
open PySem PySem.Spec PyProof.Rows L2
/-- an own error with the code nm and the fields fs stands at a -/
structure Own (K : PySem.W.Frag) (H : Hp) (a : Addr) (nm : Str) (fs : List (Str × V)) : Prop where
  ex : ∃ C, OwnX K C ∧ XoAt H a C fs
  code : fs.lookup ("code" : Str) = some (V.str nm)
  sh : SeqAt.shaped (.str nm) = true
theorem Own.same {K : PySem.W.Frag} {H H' : Hp} {a : Addr} {nm : Str} {fs : List (Str × V)} (e : Same H H') (c : Own K H a nm fs) : Own K H' a nm fs := by
  obtain ⟨⟨C, h1, h2⟩, h6, h7⟩ := c
  exact ⟨⟨C, h1, h2.same e⟩, h6, h7⟩
theorem Own.get {K : PySem.W.Frag} {H : Hp} {a : Addr} {nm f : Str} {fs : List (Str × V)} {v : V} {Q : VK} (c : Own K H a nm fs) (l : fs.lookup f = some v) (q : Q v H) :
    ∃ (b C : Addr) (fs : List (Str × V)) (v : V), V.ref a = .ref b ∧ OwnX K C ∧ XoAt H b C fs ∧ fs.lookup f = some v ∧ Q v H := by
  obtain ⟨⟨C, h1, h2⟩, _, _⟩ := c
  exact ⟨a, C, fs, v, rfl, h1, h2, l, q⟩
section
variable {X : Cx} {a0 : Addr} {x f : Str} {i j1 j2 j3 : Nat} {l : List Str} {es fes : List Expr} {p1 p2 p3 p4 p5 p6 p7 p8 p9 : Pos}
/-- the fields ns of the exception in hand, in slot i -/
def tFldsO (K : PySem.W.Frag) (a0 : Addr) (i : Nat) (ns : List Str) : TA := fun σ H Q => σ[i]? = some (some (.ref a0)) ∧ ∃ (nm : Str) (fs : List (Str × V)) (ys : List V), Own K H a0 nm fs ∧ ns.map (fun f => fs.lookup f) = ys.map some ∧ Q ys H
theorem pa_flds0O : PA X [] (tFldsO X.K a0 i []) := by
  refine ⟨fun pos pins s σ H Q I h => ?_⟩
  obtain ⟨_, nm, fs, ys, _, e, q⟩ := h
  have e2 : ys = [] := by
    cases ys with
    | nil => rfl
    | cons y ys => cases e
  subst e2
  exact pa_nil.run pos pins s σ H Q I q
theorem pa_fldsO {ns : List Str} (hv : PE X (.Name x p1) (tVar i)) (hf : f ∈ exFields) (ha : PA X es (tFldsO X.K a0 i ns)) : PA X (.Attribute (.Name x p1) f p2 :: es) (tFldsO X.K a0 i (f :: ns)) := by
  refine ⟨fun pos pins s σ H Q I h => ?_⟩
  obtain ⟨hs, nm, fs, ys, c, e, q⟩ := h
  match ys, e with
  | y :: ys, e =>
    have e1 := List.cons.inj e
    obtain ⟨C, h1, h2⟩ := c.ex
    refine (pa_cons (pe_xo hf hv) ha).run pos pins s σ H Q I ?_
    refine ⟨_, hs, a0, C, fs, _, rfl, h1, h2, e1.1, ?_⟩
    exact ⟨hs, nm, fs, ys, c, e1.2, q⟩
/-- if a test of the code: return the fields ns -/
def tIfRetO (K : PySem.W.Frag) (a0 : Addr) (i : Nat) (c : Str → Bool) (ns : List Str) : TS := fun D σ H => σ[i]? = some (some (.ref a0)) ∧ ∃ (nm : Str) (fs : List (Str × V)), Own K H a0 nm fs ∧
  (c nm = true → ∃ ys, ns.map (fun f => fs.lookup f) = ys.map some ∧ ∀ T H', Same H H' → SqT K H' T ys → D.rt (.ref T) H') ∧ (c nm = false → ∀ H', Same H H' → D.nx σ H')
theorem flds_endO {K : PySem.W.Frag} {σ : L2.St} {H H1 : Hp} {ns : List Str} {nm : Str} {fs : List (Str × V)} {R : VK} (hl : ns.length ≤ 1000) (hs : σ[i]? = some (some (.ref a0))) (sm : Same H H1) (c : Own K H a0 nm fs)
    (h : ∃ ys, ns.map (fun f => fs.lookup f) = ys.map some ∧ ∀ T H', Same H H' → SqT K H' T ys → R (.ref T) H') : tTup (tFldsO K a0 i ns) σ H1 R := by
  obtain ⟨ys, e, k⟩ := h
  have hz : ys.length = ns.length := by
    have z := congrArg List.length e
    rw [List.length_map, List.length_map] at z
    exact z.symm
  exact ⟨hs, nm, fs, ys, c.same sm, e, small_line (by omega), fun T hT => k T _ (sm.trans (same_upd hT)) (SqT.of upd_same)⟩
theorem ps_inRetO {ns : List Str} (hu : X.A.units + 65 < cLine) (hl : l.length ≤ 1000) (hn : ns.length ≤ 1000) (sh : SeqAt.shaped (.tuple (l.map PyData.str)) = true) (hv : PE X (.Name x p1) (tVar i))
    (ha : PA X es (fun _ H Q => Q (l.map V.str) H)) (he : PA X fes (tFldsO X.K a0 i ns)) :
    PS X (.If (.Compare (.Attribute (.Name x p1) "code" p3) [.In] [.Tuple es j1 p4] p5) [.Return (some (.Tuple fes j2 p7)) p8] [] p9) (tIfRetO X.K a0 i (eqIn l) ns) := by
  refine ⟨fun pins s σ H D I h => (ps_if (pt_cmpR (op_inT hu) (pe_xo (by decide) hv) (pe_tup ha) rfl) (pss_one (ps_ret (pe_tup he))) pss_nil).run pins s σ H D I ?_⟩
  obtain ⟨hs, nm, fs, c, hy, hn⟩ := h
  have hz : (l.map V.str).length ≤ sizeLine := by rw [List.length_map]; exact small_line hl
  refine ⟨_, hs, c.get c.code ⟨hz, fun T hT => ?_⟩⟩
  have sm := same_upd (o := .tup (l.map V.str)) hT
  refine ⟨.str nm, l.map PyData.str, .str nm, .tup (SqT.of upd_same) (strs_all l), c.sh, sh, eqIn l nm, rfl, ?_⟩
  cases e : eqIn l nm with
  | true => exact iteT (flds_endO (by assumption) hs sm c (hy e))
  | false => exact iteF (hn e _ sm)
theorem ps_eqRetO {ns : List Str} {z : Str} (hn : ns.length ≤ 1000) (hv : PE X (.Name x p1) (tVar i)) (he : PA X fes (tFldsO X.K a0 i ns)) :
    PS X (.If (.Compare (.Attribute (.Name x p1) "code" p3) [.Eq] [.Constant (.str z) j1 p4] p5) [.Return (some (.Tuple fes j2 p7)) p8] [] p9) (tIfRetO X.K a0 i (fun nm => decide (nm = z)) ns) := by
  refine ⟨fun pins s σ H D I h => (ps_if (pt_cmpR op_eq (pe_xo (by decide) hv) pe_str rfl) (pss_one (ps_ret (pe_tup he))) pss_nil).run pins s σ H D I ?_⟩
  obtain ⟨hs, nm, fs, c, hy, hn⟩ := h
  obtain ⟨C, h1, h2⟩ := c.ex
  refine ⟨_, hs, a0, C, fs, _, rfl, h1, h2, c.code, ?_⟩
  refine ⟨rfl, decide (nm = z), congrArg V.bl ?_, ?_⟩
  · by_cases y : nm = z
    · subst y
      rw [decide_eq_true rfl, decide_eq_true rfl]
    · rw [decide_eq_false y, decide_eq_false fun q => y (V.str.inj q)]
  cases e : decide (nm = z) with
  | true => exact iteT (flds_endO (by assumption) hs (Same.refl H) c (hy e))
  | false => exact iteF (hn e _ (Same.refl H))
/-- return the fields ns if the code is z else () -/
def tEndRetO (K : PySem.W.Frag) (a0 : Addr) (i : Nat) (z : Str) (ns : List Str) : TS := fun D σ H => σ[i]? = some (some (.ref a0)) ∧ ∃ (nm : Str) (fs : List (Str × V)), Own K H a0 nm fs ∧
  ∃ ys, (if decide (nm = z) = true then ns else []).map (fun f => fs.lookup f) = ys.map some ∧ ∀ T H', Same H H' → SqT K H' T ys → D.rt (.ref T) H'
theorem ps_endRetO {ns : List Str} {z : Str} (hn : ns.length ≤ 1000) (hv : PE X (.Name x p1) (tVar i)) (he : PA X fes (tFldsO X.K a0 i ns)) :
    PS X (.Return (some (.IfExp (.Compare (.Attribute (.Name x p1) "code" p3) [.Eq] [.Constant (.str z) j1 p4] p5) (.Tuple fes j2 p7) (.Tuple [] j3 p2) p6)) p8) (tEndRetO X.K a0 i z ns) := by
  refine ⟨fun pins s σ H D I h => (ps_ret (pe_ifExp (pt_cmpR op_eq (pe_xo (by decide) hv) pe_str rfl) (pe_tup he) (pe_tup (pa_flds0O (a0 := a0) (i := i))))).run pins s σ H D I ?_⟩
  obtain ⟨hs, nm, fs, c, h⟩ := h
  obtain ⟨C, h1, h2⟩ := c.ex
  refine ⟨_, hs, a0, C, fs, _, rfl, h1, h2, c.code, ?_⟩
  refine ⟨rfl, decide (nm = z), congrArg V.bl ?_, ?_⟩
  · by_cases y : nm = z
    · subst y
      rw [decide_eq_true rfl, decide_eq_true rfl]
    · rw [decide_eq_false y, decide_eq_false fun q => y (V.str.inj q)]
  cases e : decide (nm = z) with
  | true =>
    rw [e, if_pos rfl] at h
    exact iteT (flds_endO (by assumption) hs (Same.refl H) c h)
  | false =>
    rw [e, if_neg Bool.false_ne_true] at h
    exact iteF (flds_endO (by decide) hs (Same.refl H) c h)
end
/-- the fields of such an error: of its code's names, in a tuple -/
def spFieldsO (K : PySem.W.Frag) : Sp := fun vs H Q _ => ∃ (a0 : Addr) (nm : Str) (fs : List (Str × V)) (ys : List V), vs = [.ref a0] ∧ Own K H a0 nm fs ∧ (fieldsOf nm).map (fun f => fs.lookup f) = ys.map some ∧ ∀ T H', Same H H' → SqT K H' T ys → Q (.ref T) H'
/-- closes the making of an error -/
theorem mk_xo {K : PySem.W.Frag} {C : Addr} {nm : Str} {n m : Nat} {flds : List Str} {H1 : Hp} {vs zs : List V} {ds : List PyData} {Q : Addr → Hp → Prop} (hm : flds.length + 1 = m) (hl : flds.length = (vs ++ zs).length) (h100 : flds.length ≤ 100) (hv : DpAll K H1 (vs ++ zs) ds) (hf : ∀ d ∈ ds, fit n d = true)
    (q : ∀ (a : Addr) (fs : List (Str × V)) (H' : Hp), Same H1 H' → XoAt H' a C fs → FlOk K H' fs (("code", .str nm) :: after (slots 1 flds) ds []) → Q a H') :
    ∀ a, H1 a = none → spErr K C nm n m (slots 1 flds) ((.ref a :: vs) ++ zs) (upd H1 a (exo a C none)) (fun v H2 => v = .non ∧ Q a H2) (fun _ _ _ => False) := by
  refine fun a ha => ?_
  have sm1 : Same (nox H1) (nox (upd H1 a (exo a C none))) := fun b o e => by
    obtain ⟨e1, e2⟩ := of_nox e
    exact nox_of (by rw [upd_ne (ne_of_none e1 ha)]; exact e1) e2
  refine ⟨a, vs ++ zs, ds, rfl, by show (vs ++ zs).length + 1 = m; omega, upd_same, args_of (pre := [some (.ref a)]) (DpAll.same sm1 _ _ (DpAll.nox _ _ hv)) hf hl, by rw [slots_len]; exact h100, fun G' st => ⟨rfl, ?_⟩⟩
  obtain ⟨⟨fs, hF, ⟨z, _⟩ | ⟨dx, h1, h2, h3, h4⟩⟩, but, _⟩ := st
  · cases z
  · refine q a fs G' (fun b o e => ?_) ⟨dx, h3, h4⟩ (hF.same fun b o e => newer_sub b o (of_nox e).1)
    have na := ne_of_none e ha
    exact but b o na (by rw [upd_ne na]; exact e)
/-- an own error's class C, called by its name with np positional values and keywords ks -/
structure ErrV (P : Program) (w : World) (K : PySem.W.Frag) (mg : Str → Option Value) (base : Heap) (nm : Str) (flds : List Str) (C : Addr) (k n np : Nat) (ks : List Str) : Prop where
  ex : ∃ (B newId i : String) (bmB : List Value) (f : Addr) (fd : FuncData) (ps : List Str) (g : List Value → List Value → List Value), GexC K C B newId i bmB ∧ PySem.W.findIn K (.ref C) "__init__" = some (some (.ref f)) ∧ PySem.W.typeIn K (.ref f) = some (.type "function") ∧
    KBn K fd ps (np + 1) ks g (fun vs zs => vs ++ zs) ∧ FnOk P w K mg base CX0 k f fd ps (spErr K C nm n (flds.length + 1) (slots 1 flds))
  own : OwnX K C
  cls : ClsTxt K C nm
  glob : mg nm = some (.ref C)
  few : flds.length ≤ 100
def tErrV (K : PySem.W.Frag) (C : Addr) (nm : Str) (flds : List Str) (n np m : Nat) (t tk : TA) : TE := tGex C np m (spErr K C nm n (flds.length + 1) (slots 1 flds)) (fun vs zs => vs ++ zs) t tk
section
variable {X : Cx} {nm : Str} {flds ks : List Str} {C : Addr} {k n np : Nat} {p pos : Pos} {e : Expr} {es : List Expr} {kws : List Keyword} {t tk : TA}
theorem pe_errK0 (T : ErrV X.prog X.w X.K X.mg X.base nm flds C k n 0 ks) (hr : Room (k + 1) X.A) (hg : Gl X nm) (hkw : PK X kws tk)
    (hall : (backToKw pos (keywordEach kws X.env)).all (·.1.isSome) = true := by rfl) (hks : (backToKw pos (keywordEach kws X.env)).filterMap (·.1) = ks := by rfl) (hdb : (nm == ("__debug__" : Str)) = false := by decide)
    (hpl : ((backTo pos (starEach [] X.env)).any (·.1) || (backToKw pos (keywordEach kws X.env)).any (·.1.isNone)) = false := by rfl) :
    PE X (.Call (.Name nm p) [] kws pos) (tErrV X.K C nm flds n 0 ks.length tNil tk) := by
  obtain ⟨B, newId, i, bmB, f, fd, ps, g, h1, h2, h3, h4, h5⟩ := T.ex
  exact pe_gexK0 h1 h2 h3 h5 hr hg T.glob h4 pass0 hkw hall hks hdb hpl
theorem pe_errK (T : ErrV X.prog X.w X.K X.mg X.base nm flds C k n np ks) (hr : Room (k + 1) X.A) (hg : Gl X nm) (ha : PA X (e :: es) t) (hkw : PK X kws tk)
    (hall : (backToKw pos (keywordEach kws X.env)).all (·.1.isSome) = true := by rfl) (hks : (backToKw pos (keywordEach kws X.env)).filterMap (·.1) = ks := by rfl) (hdb : (nm == ("__debug__" : Str)) = false := by decide)
    (he : starEach (e :: es) X.env = (false, eval e X.env) :: starEach es X.env := by rfl) (hpl : ((backTo pos (starEach (e :: es) X.env)).any (·.1) || (backToKw pos (keywordEach kws X.env)).any (·.1.isNone)) = false := by rfl) :
    PE X (.Call (.Name nm p) (e :: es) kws pos) (tErrV X.K C nm flds n np ks.length t tk) := by
  obtain ⟨B, newId, i, bmB, f, fd, ps, g, h1, h2, h3, h4, h5⟩ := T.ex
  exact pe_gexK h1 h2 h3 h5 hr hg T.glob h4 pass0 ha hkw hall hks hdb he hpl
theorem pe_errV (T : ErrV X.prog X.w X.K X.mg X.base nm flds C k n np []) (hr : Room (k + 1) X.A) (hg : Gl X nm) (ha : PA X (e :: es) t) (hdb : (nm == ("__debug__" : Str)) = false := by decide)
    (he : starEach (e :: es) X.env = (false, eval e X.env) :: starEach es X.env := by rfl) (hpl : (backTo pos (starEach es X.env)).any (·.1) = false := by rfl) :
    PE X (.Call (.Name nm p) (e :: es) [] pos) (tErrV X.K C nm flds n np 0 t tNil) := by
  obtain ⟨B, newId, i, bmB, f, fd, ps, g, h1, h2, h3, h4, h5⟩ := T.ex
  exact pe_gex h1 h2 h3 h5 hr hg T.glob h4 pass0 ha hdb he hpl
theorem pe_err0 (T : ErrV X.prog X.w X.K X.mg X.base nm flds C k n 0 []) (hr : Room (k + 1) X.A) (hg : Gl X nm) (hdb : (nm == ("__debug__" : Str)) = false := by decide) :
    PE X (.Call (.Name nm p) [] [] pos) (tErrV X.K C nm flds n 0 0 tNil tNil) := by
  obtain ⟨B, newId, i, bmB, f, fd, ps, g, h1, h2, h3, h4, h5⟩ := T.ex
  exact pe_gex0 h1 h2 h3 h5 hr hg T.glob h4 pass0 hdb
end
section
variable {P : Program} {w : World} {K : PySem.W.Frag} {mg : Str → Option Value} {base : Heap}
theorem errV_of {B newId i : String} {bmB : List Value} {nm : Str} {flds ps : List Str} {st : Stmt} {rest : List Stmt} {p0 p1 p2 p3 p4 p5 : Pos} {j k n : Nat} {z : Str} {self : Arg} {np : Nat} {ks : List Str} {fC : Addr} {fdC : FuncData} (ini : fnI K (IniD.at_ ⟨nm, st⟩) = IniD.val ⟨nm, st⟩) (kf : PySem.W.KxsFacts B i) (I : IniOkG K nm P.main.file B i) (E : IniG K (He.ga K nm) nm B newId i bmB) (glob : mg nm = some (.ref (He.ga K nm)))
    (hev : SupEv p0 p1 p2 p3 p4 j z) (hb : defBody st = superInit p0 p1 p2 p3 p4 p5 j z :: rest) (S : IniScope ps (defScope st)) (hself : ((defArgs st).posonlyargs ++ (defArgs st).args).head? = some self) (hp0 : ps[0]? = some self.arg)
    (GC : FnOk P w K mg base CX0 k fC fdC ["value"] (spCopy K n)) (hg : (defScope st).names.lookup ("copied" : Str) = some .globalImplicit) (mC : mg "copied" = some (.ref fC)) (hk : PySem.W.keepIn K (.ref fC) = true) (bC : L2.Binds K fdC ["value"] [])
    (hps : ∀ x ∈ ps, (x == ("__debug__" : Str)) = false ∧ (x == ("__classdict__" : Str)) = false) (hf : ∀ f ∈ flds, f ∈ exFields) (few : flds.length ≤ 100) (hl : ps.length = flds.length + 1) (hs : IniSts ps (slots 1 flds) rest) (sup : mg "super" = none) (top : (P.main.scope.names.lookup ("super" : Str)).isSome = false)
    (binds : ∀ (q : Str) (kV doc pm cdv ct : Value) (an : Option Addr) (cc : Addr) (us ws : List Value), us.length = np + 1 → ws.length = ks.length → bindArgs (PySem.W.ksFn "__init__" q (defArgs st) (defBody st) (defScope st) .none kV doc pm an cdv ct cc) ⟨us, ks.zip ws⟩ = pure (ps.zip (us ++ ws))) :
    ErrV P w K mg base nm flds (He.ga K nm) (k + 1) n np ks := by
  obtain ⟨oc, od, fd, osl, cda, cc, x, e, e1, e2, e3, g2, g3, g4⟩ := I.fn
  have e0 : K.lookup (He.fAd K (IniD.at_ ⟨nm, st⟩)) = some ⟨oc, od, .func fd, osl⟩ := e
  unfold fnI at ini
  rw [e0] at ini
  obtain ⟨f1, f2, f3, f4, f5, f6, f7, f8, f9, f10, f11, f12, f13, f14, f15⟩ := fd
  have ini : (some (f1, f2, f3, f4, f5, f6, f7.map (·.1), f15) : FnI) = (some (("__init__" : Str), IniD.qual ⟨nm, st⟩, defArgs st, FuncBody.stmts (defBody st), defScope st, mainGlobals, [("__class__" : Str)], builtinsNs) : FnI) := ini
  simp only [Option.some.injEq, Prod.mk.injEq] at ini
  obtain ⟨rfl, rfl, rfl, rfl, rfl, rfl, ec, rfl⟩ := ini
  have e1 : f13 = .ref cda := e1
  have e2 : f7 = [(x, cc)] := e2
  have e3 : f8 = .none := e3
  subst e1 e2 e3
  have ex : x = "__class__" := by
    have z := List.cons.inj ec
    exact z.1
  subst ex
  obtain ⟨name, q, N, bs, bm, sn, sub, ab, col, dd, k0, k1, k2, k3, k5, lC, hbm⟩ := E.oex.cls
  have T : IniTxt P K mg B i newId bmB (He.ga K nm) (He.ma K (He.ga K nm) "__init__") cc cda (IniD.qual ⟨nm, st⟩) (defArgs st) (superInit p0 p1 p2 p3 p4 p5 j z :: rest) (defScope st)
      (PySem.W.ksFn "__init__" (IniD.qual ⟨nm, st⟩) (defArgs st) (defBody st) (defScope st) .none f9 f10 f11 f12 (.ref cda) f14 cc) := by
    refine ⟨kf, hbm.fb, ⟨oc, od, .none, f9, f10, f11, f12, f14, osl, by rw [hb], e⟩, g2, g3, g4, ⟨name, q, N, bs, bm, true, sn, sub, ab, col, dd, k0, k1, k2, k3, k5, lC⟩, I.up, I.isB, I.self, I.opq, sup, top⟩
  have ok := ok_iniG (n := n) (nm := nm) (l := slots 1 flds) hev T S hself hp0 E GC hg mC hk bC hps (fun p hp => ?_) hs
  · rw [hl] at ok
    exact ⟨⟨_, _, _, _, _, _, ps, fun us ws => us ++ ws, E.oex, I.find, I.typ, ⟨fun s us ws _ l1 l2 => .of_eq (binds _ _ _ _ _ _ _ _ us ws l1 l2), fun r1 r2 => r1.append r2⟩, ok⟩, E.own, E.cls, glob, few⟩
  · have key : ∀ (l : List Str) (u : Nat), (∀ f ∈ l, f ∈ exFields) → ∀ p ∈ slots u l, p.1 ∈ exFields := by
      intro l
      induction l with
      | nil => intro u _ p hp; cases hp
      | cons f l ih =>
        intro u h p hp
        rcases List.mem_cons.mp hp with e | hp
        · rw [e]
          exact h f List.mem_cons_self
        · exact ih (u + 1) (fun g hg => h g (List.mem_cons_of_mem _ hg)) p hp
    exact key flds 1 hf p hp
end
/-! ### errors with no fields -/
section
variable {X : Cx} {C : Addr} {n : Nat} {nm : Str} {B newId i : String} {bmB : List Value}
theorem pss_ini0 (hX : ∀ x j p, X.N[j]? = some x → PE X (.Name x p) (tVar j)) (T : IniG X.K C nm B newId i bmB) : ∀ {ss : List Stmt}, IniSts X.N [] ss → PSs X ss (tIni X.K C nm n []) := by
  intro ss hs
  cases hs with
  | code h =>
    refine ⟨fun pins s σ H D I hh => (pss_one (ps_gst (B := B) (newId := newId) (i := i) (bmB := bmB) (hX _ 0 _ h) (pe_clsName (hX _ 0 _ h)))).run pins s σ H D I ?_⟩
    obtain ⟨H0, a, FL, rs, h0, hae, st, ha, hl, q⟩ := hh
    have ex : H a = some (exo a C none) ∨ ∃ (dx : Addr) (fs : List (Str × V)), H a = some (exo a C (some dx)) ∧ H dx = some (exd dx fs) := by
      obtain ⟨fs, _, ⟨_, e⟩ | ⟨dx, _, _, e1, e2⟩⟩ := st.ex
      · exact .inl e
      · exact .inr ⟨dx, fs, e1, e2⟩
    refine ⟨_, h0, a, C, nm, rfl, T.cls, ex, _, h0, a, C, rfl, T.oex, T.own.no _ (by decide), ?_⟩
    refine st.store (R := D.nx) (.str nm) (by have := hl; simp at this; omega) fun G' s' => q G' ?_
    match rs, ha with
    | [], _ => exact s'
end
section
variable {P : Program} {w : World} {K : PySem.W.Frag} {mg : Str → Option Value} {base : Heap} {B i newId : String} {bmB : List Value} {C f cc cda fC : Addr} {qual : Str} {params : Arguments} {rest : List Stmt} {sc : Scope} {fd fdC : FuncData} {ps : List Str} {p0 p1 p2 p3 p4 p5 : Pos} {j k n : Nat} {z nm : Str} {self : Arg} {l : List (Str × Nat)}
theorem ok_ini0 (hev : SupEv p0 p1 p2 p3 p4 j z) (T : IniTxt P K mg B i newId bmB C f cc cda qual params (superInit p0 p1 p2 p3 p4 p5 j z :: rest) sc fd) (S : IniScope ps sc) (hself : (params.posonlyargs ++ params.args).head? = some self) (hp0 : ps[0]? = some self.arg)
    (TC : IniG K C nm B newId i bmB) (hps : ∀ x ∈ ps, (x == ("__debug__" : Str)) = false ∧ (x == ("__classdict__" : Str)) = false) (hs : IniSts ps [] rest) : FnOk P w K mg base CX0 (k + 1) f fd ps (spErr K C nm n ps.length []) := by
  refine ini_ok hev T S hself hp0 (fun vs H Q E h => ?_) fun A outer s H vs Q E hr h => ?_
  · obtain ⟨_, _, _, _, e, _⟩ := h
    exact e
  · obtain ⟨a, xs, rs, rfl, hl, hea, ha, hn, q⟩ := h
    refine ⟨a, xs, rfl, hea, _, pss_ini0 (X := iniCx P w K mg base ps qual sc f cda cc A outer s H) (C := C) (nm := nm) (n := n) (fun x i p hx => pe_var hx (.inl (S.par x (List.mem_of_getElem? hx))) (hps x (List.mem_of_getElem? hx)).1 (hps x (List.mem_of_getElem? hx)).2) TC hs, ?_⟩
    exact ⟨H, a, [], rs, rfl, hea, Stg.start hea, ha, by show 0 + ([] : List (Str × Nat)).length ≤ 100; omega, q⟩
end
section
variable {P : Program} {w : World} {K : PySem.W.Frag} {mg : Str → Option Value} {base : Heap}
theorem errV_of0 {B newId i : String} {bmB : List Value} {nm : Str} {ps : List Str} {st : Stmt} {rest : List Stmt} {p0 p1 p2 p3 p4 p5 : Pos} {j k n : Nat} {z : Str} {self : Arg} {np : Nat} {ks : List Str} (ini : fnI K (IniD.at_ ⟨nm, st⟩) = IniD.val ⟨nm, st⟩) (kf : PySem.W.KxsFacts B i) (I : IniOkG K nm P.main.file B i) (E : IniG K (He.ga K nm) nm B newId i bmB) (glob : mg nm = some (.ref (He.ga K nm)))
    (hev : SupEv p0 p1 p2 p3 p4 j z) (hb : defBody st = superInit p0 p1 p2 p3 p4 p5 j z :: rest) (S : IniScope ps (defScope st)) (hself : ((defArgs st).posonlyargs ++ (defArgs st).args).head? = some self) (hp0 : ps[0]? = some self.arg)
    (hps : ∀ x ∈ ps, (x == ("__debug__" : Str)) = false ∧ (x == ("__classdict__" : Str)) = false) (hl : ps.length = 1) (hs : IniSts ps [] rest) (sup : mg "super" = none) (top : (P.main.scope.names.lookup ("super" : Str)).isSome = false)
    (binds : ∀ (q : Str) (kV doc pm cdv ct : Value) (an : Option Addr) (cc : Addr) (us ws : List Value), us.length = np + 1 → ws.length = ks.length → bindArgs (PySem.W.ksFn "__init__" q (defArgs st) (defBody st) (defScope st) .none kV doc pm an cdv ct cc) ⟨us, ks.zip ws⟩ = pure (ps.zip (us ++ ws))) :
    ErrV P w K mg base nm [] (He.ga K nm) (k + 1) n np ks := by
  obtain ⟨oc, od, fd, osl, cda, cc, x, e, e1, e2, e3, g2, g3, g4⟩ := I.fn
  have e0 : K.lookup (He.fAd K (IniD.at_ ⟨nm, st⟩)) = some ⟨oc, od, .func fd, osl⟩ := e
  unfold fnI at ini
  rw [e0] at ini
  obtain ⟨f1, f2, f3, f4, f5, f6, f7, f8, f9, f10, f11, f12, f13, f14, f15⟩ := fd
  have ini : (some (f1, f2, f3, f4, f5, f6, f7.map (·.1), f15) : FnI) = (some (("__init__" : Str), IniD.qual ⟨nm, st⟩, defArgs st, FuncBody.stmts (defBody st), defScope st, mainGlobals, [("__class__" : Str)], builtinsNs) : FnI) := ini
  simp only [Option.some.injEq, Prod.mk.injEq] at ini
  obtain ⟨rfl, rfl, rfl, rfl, rfl, rfl, ec, rfl⟩ := ini
  have e1 : f13 = .ref cda := e1
  have e2 : f7 = [(x, cc)] := e2
  have e3 : f8 = .none := e3
  subst e1 e2 e3
  have ex : x = "__class__" := by
    have z := List.cons.inj ec
    exact z.1
  subst ex
  obtain ⟨name, q, N, bs, bm, sn, sub, ab, col, dd, k0, k1, k2, k3, k5, lC, hbm⟩ := E.oex.cls
  have T : IniTxt P K mg B i newId bmB (He.ga K nm) (He.ma K (He.ga K nm) "__init__") cc cda (IniD.qual ⟨nm, st⟩) (defArgs st) (superInit p0 p1 p2 p3 p4 p5 j z :: rest) (defScope st)
      (PySem.W.ksFn "__init__" (IniD.qual ⟨nm, st⟩) (defArgs st) (defBody st) (defScope st) .none f9 f10 f11 f12 (.ref cda) f14 cc) := by
    refine ⟨kf, hbm.fb, ⟨oc, od, .none, f9, f10, f11, f12, f14, osl, by rw [hb], e⟩, g2, g3, g4, ⟨name, q, N, bs, bm, true, sn, sub, ab, col, dd, k0, k1, k2, k3, k5, lC⟩, I.up, I.isB, I.self, I.opq, sup, top⟩
  have ok := ok_ini0 (P := P) (w := w) (base := base) (n := n) (nm := nm) (k := k) hev T S hself hp0 E hps hs
  rw [hl] at ok
  exact ⟨⟨_, _, _, _, _, _, ps, fun us ws => us ++ ws, E.oex, I.find, I.typ, ⟨fun s us ws _ l1 l2 => .of_eq (binds _ _ _ _ _ _ _ _ us ws l1 l2), fun r1 r2 => r1.append r2⟩, ok⟩, E.own, E.cls, glob, by decide⟩
end
abbrev veTl : List Value := [.type "ValueError", .type "Exception", .type "BaseException", .type "object"]
theorem tailVE : ∀ bm, refsX veTl bm = true → Tail bm "ValueError" "ValueError.__new__" "ValueError.__init__" veTl := refsX_tail F.excBase_ValueError F.store_ValueError.passes (by decide +kernel)
abbrev ieTl : List Value := [.type "IndexError", .type "LookupError", .type "Exception", .type "BaseException", .type "object"]
theorem tailIE : ∀ bm, refsX ieTl bm = true → Tail bm "IndexError" "IndexError.__new__" "IndexError.__init__" ieTl := refsX_tail F.excBase_IndexError F.store_IndexError.passes (by decide +kernel)
end VG

set_option maxRecDepth 100000
namespace Lw
open PySem PySem.Spec PyProof.Rows L2 VG
open L2H (RoomH)
section
variable {P : Program} {w : World} {K : PySem.W.Frag} {mg : Str → Option Value} {base : Heap}
theorem scFields : FnScope ["_law_e"] ["_law_e"] (defScope s__law_fields) := ⟨rfl, rfl, rfl, by decide +kernel, rfl, by decide +kernel, by decide +kernel⟩
theorem ok_fields {f : Addr} {fd : FuncData} (F : Fun K "_law_fields" "_law_fields" s__law_fields f fd) : FnOk P w K mg base CX0 1 f fd ["_law_e"] (spFieldsO K) := by
  refine F.ok scFields (fun vs H Q E h => ?_) (fun cdv A outer s H vs Q E hr h => ?_)
  · obtain ⟨a0, nm, fs, ys, rfl, _⟩ := h
    rfl
  · obtain ⟨a0, nm, fs, ys, rfl, c, el, q⟩ := h
    have hu : (A.deeper (envOfC "_law_fields" (defScope s__law_fields) s.heap.objs.size f cdv)).units + 65 < cLine := by
      have := hr.un
      simp only [PySem.Around.deeper_units] at this ⊢
      omega
    refine ⟨_, pss_cons (ps_inRetO (a0 := a0) (i := 0) (ns := ["given"]) (l := ["InvalidRatio", "InvalidNumber", "InvalidName", "InvalidLayer", "InvalidPlace", "InvalidPoint", "InvalidForm", "InvalidLimit"]) hu (by decide) (by decide) (by decide +kernel) (pv 0) (pa_cons pe_str (pa_cons pe_str (pa_cons pe_str (pa_cons pe_str (pa_cons pe_str (pa_cons pe_str (pa_cons pe_str (pa_cons pe_str pa_nil)))))))) (pa_fldsO (pv 0) (by decide) pa_flds0O))
      (pss_cons (ps_inRetO (a0 := a0) (i := 0) (ns := ["at"]) (l := ["InvalidRow", "InvalidFact", "InvalidCommand"]) hu (by decide) (by decide) (by decide +kernel) (pv 0) (pa_cons pe_str (pa_cons pe_str (pa_cons pe_str pa_nil))) (pa_fldsO (pv 0) (by decide) pa_flds0O))
      (pss_cons (ps_inRetO (a0 := a0) (i := 0) (ns := ["path"]) (l := ["InvalidStep", "UnlikeEnds"]) hu (by decide) (by decide) (by decide +kernel) (pv 0) (pa_cons pe_str (pa_cons pe_str pa_nil)) (pa_fldsO (pv 0) (by decide) pa_flds0O))
      (pss_cons (ps_inRetO (a0 := a0) (i := 0) (ns := ["name"]) (l := ["DuplicateName", "UnknownName"]) hu (by decide) (by decide) (by decide +kernel) (pv 0) (pa_cons pe_str (pa_cons pe_str pa_nil)) (pa_fldsO (pv 0) (by decide) pa_flds0O))
      (pss_cons (ps_inRetO (a0 := a0) (i := 0) (ns := ["word"]) (l := ["InvalidText", "UnknownScript"]) hu (by decide) (by decide) (by decide +kernel) (pv 0) (pa_cons pe_str (pa_cons pe_str pa_nil)) (pa_fldsO (pv 0) (by decide) pa_flds0O))
      (pss_cons (ps_eqRetO (a0 := a0) (i := 0) (ns := ["layer"]) (z := "InvalidTable") (by decide) (pv 0) (pa_fldsO (pv 0) (by decide) pa_flds0O))
      (pss_cons (ps_eqRetO (a0 := a0) (i := 0) (ns := ["layer", "start", "goal"]) (z := "InvalidWay") (by decide) (pv 0) (pa_fldsO (pv 0) (by decide) (pa_fldsO (pv 0) (by decide) (pa_fldsO (pv 0) (by decide) pa_flds0O))))
      (pss_cons (ps_eqRetO (a0 := a0) (i := 0) (ns := ["limit"]) (z := "Full") (by decide) (pv 0) (pa_fldsO (pv 0) (by decide) pa_flds0O))
      (pss_cons (ps_eqRetO (a0 := a0) (i := 0) (ns := ["line"]) (z := "InvalidPage") (by decide) (pv 0) (pa_fldsO (pv 0) (by decide) pa_flds0O))
      (pss_one (ps_endRetO (a0 := a0) (i := 0) (ns := ["subject", "most"]) (z := "TooMany") (by decide) (pv 0) (pa_fldsO (pv 0) (by decide) (pa_fldsO (pv 0) (by decide) pa_flds0O)))))))))))), ?_⟩
    unfold VG.fieldsOf at el
    refine ⟨rfl, nm, fs, c, fun e => ⟨ys, by rw [if_pos e] at el; exact el, q⟩, fun e H1 s1 => ?_⟩
    rw [if_neg (by rw [e]; exact Bool.false_ne_true)] at el
    refine ⟨rfl, nm, fs, c.same s1, fun e => ⟨ys, by rw [if_pos e] at el; exact el, fun T H' z => q T H' (s1.trans z)⟩, fun e H2 s2 => ?_⟩
    rw [if_neg (by rw [e]; exact Bool.false_ne_true)] at el
    replace s2 := s1.trans s2
    refine ⟨rfl, nm, fs, c.same s2, fun e => ⟨ys, by rw [if_pos e] at el; exact el, fun T H' z => q T H' (s2.trans z)⟩, fun e H3 s3 => ?_⟩
    rw [if_neg (by rw [e]; exact Bool.false_ne_true)] at el
    replace s3 := s2.trans s3
    refine ⟨rfl, nm, fs, c.same s3, fun e => ⟨ys, by rw [if_pos e] at el; exact el, fun T H' z => q T H' (s3.trans z)⟩, fun e H4 s4 => ?_⟩
    rw [if_neg (by rw [e]; exact Bool.false_ne_true)] at el
    replace s4 := s3.trans s4
    refine ⟨rfl, nm, fs, c.same s4, fun e => ⟨ys, by rw [if_pos e] at el; exact el, fun T H' z => q T H' (s4.trans z)⟩, fun e H5 s5 => ?_⟩
    rw [if_neg (by rw [e]; exact Bool.false_ne_true)] at el
    replace s5 := s4.trans s5
    refine ⟨rfl, nm, fs, c.same s5, fun e => ⟨ys, by rw [if_pos e] at el; exact el, fun T H' z => q T H' (s5.trans z)⟩, fun e H6 s6 => ?_⟩
    rw [if_neg (by rw [show decide (nm = "InvalidTable") = false from e]; exact Bool.false_ne_true)] at el
    replace s6 := s5.trans s6
    refine ⟨rfl, nm, fs, c.same s6, fun e => ⟨ys, by rw [if_pos e] at el; exact el, fun T H' z => q T H' (s6.trans z)⟩, fun e H7 s7 => ?_⟩
    rw [if_neg (by rw [show decide (nm = "InvalidWay") = false from e]; exact Bool.false_ne_true)] at el
    replace s7 := s6.trans s7
    refine ⟨rfl, nm, fs, c.same s7, fun e => ⟨ys, by rw [if_pos e] at el; exact el, fun T H' z => q T H' (s7.trans z)⟩, fun e H8 s8 => ?_⟩
    rw [if_neg (by rw [show decide (nm = "Full") = false from e]; exact Bool.false_ne_true)] at el
    replace s8 := s7.trans s8
    refine ⟨rfl, nm, fs, c.same s8, fun e => ⟨ys, by rw [if_pos e] at el; exact el, fun T H' z => q T H' (s8.trans z)⟩, fun e H9 s9 => ?_⟩
    rw [if_neg (by rw [show decide (nm = "InvalidPage") = false from e]; exact Bool.false_ne_true)] at el
    replace s9 := s8.trans s9
    exact ⟨rfl, nm, fs, c.same s9, ys, el, fun T H' z => q T H' (s9.trans z)⟩
end
end Lw

set_option maxRecDepth 100000
set_option linter.unusedVariables false
set_option maxHeartbeats 4000000
namespace Lw
open PySem PySem.Spec PyProof.Rows L2 VG
/-- the names of the own errors -/
abbrev EN : List Str := ["InvalidRatio", "InvalidNumber", "InvalidName", "DuplicateName", "InvalidRow", "InvalidLayer", "InvalidTable", "InvalidWay", "InvalidPlace", "InvalidPoint", "InvalidForm", "InvalidStep", "UnlikeEnds", "InvalidText", "InvalidFact", "UnlikeScripts", "UnlikeWorlds", "HasTests", "NoWorld", "InvalidCommand", "InvalidLimit", "Full", "InvalidPage", "TooMany", "UnknownName", "UnknownScript", "NothingLeft"]
structure KindT (K : PySem.W.Frag) (mg : Str → Option Value) (g : Str → Addr) : Prop where
  at_ : ∀ nm ∈ EN, mg nm = some (.ref (g nm))
  own : ∀ nm ∈ EN, OwnX K (g nm)
  cls : ∀ nm ∈ EN, ClsTxt K (g nm) nm
  kind : ∀ (i j : Nat) (a b : Str), EN[i]? = some a → EN[j]? = some b → PySem.W.kitOne K (.ref (g a)) (.ref (g b)) = some (decide (i = j))
section
variable {P : Program} {w : World} {K : PySem.W.Frag} {mg : Str → Option Value} {base : Heap} {g : Str → Addr}
theorem scFirst : FnScope ["_law_e"] ["_law_e"] (defScope s__law_first_classes) := ⟨rfl, rfl, rfl, by decide +kernel, rfl, by decide +kernel, by decide +kernel⟩
def spFirst (K : PySem.W.Frag) (g : Str → Addr) : Sp := fun vs H Q _ => ∃ (a : Addr) (i : Nat) (nm : Str) (fs : List (Str × V)), vs = [.ref a] ∧ EN[i]? = some nm ∧ XoAt H a (g nm) fs ∧ ∀ D, H D = none → Q (.ref D) (upd H D (.lst [V.bl (decide (i = 0)), V.bl (decide (i = 1)), V.bl (decide (i = 2)), V.bl (decide (i = 3)), V.bl (decide (i = 4)), V.bl (decide (i = 5)), V.bl (decide (i = 6)), V.bl (decide (i = 7)), V.bl (decide (i = 8)), V.bl (decide (i = 9)), V.bl (decide (i = 10)), V.bl (decide (i = 11)), V.bl (decide (i = 12))]))
theorem ok_first {f : Addr} {fd : FuncData} (F : Fun K "_law_first_classes" "_law_first_classes" s__law_first_classes f fd) (T : KindT K mg g) (is : mg "isinstance" = none) : FnOk P w K mg base CX0 1 f fd ["_law_e"] (spFirst K g) := by
  refine F.ok scFirst (fun vs H Q E h => ?_) (fun cdv A outer s H vs Q E hr h => ?_)
  · obtain ⟨a, i, nm, fs, rfl, _⟩ := h
    rfl
  · obtain ⟨a, i, nm, fs, rfl, hi, hx, k⟩ := h
    have hm := List.mem_of_getElem? hi
    refine ⟨_, pss_one (ps_ret (pe_lst (pa_cons (pe_callB call_isX (by rfl) is (by decide +kernel) (pa_cons (pv 0) (pa_cons (pe_glob (v := .ref (g "InvalidRatio")) (by rfl) (T.at_ _ (List.mem_of_getElem? (i := 0) rfl)) rfl) pa_nil))) (pa_cons (pe_callB call_isX (by rfl) is (by decide +kernel) (pa_cons (pv 0) (pa_cons (pe_glob (v := .ref (g "InvalidNumber")) (by rfl) (T.at_ _ (List.mem_of_getElem? (i := 1) rfl)) rfl) pa_nil))) (pa_cons (pe_callB call_isX (by rfl) is (by decide +kernel) (pa_cons (pv 0) (pa_cons (pe_glob (v := .ref (g "InvalidName")) (by rfl) (T.at_ _ (List.mem_of_getElem? (i := 2) rfl)) rfl) pa_nil))) (pa_cons (pe_callB call_isX (by rfl) is (by decide +kernel) (pa_cons (pv 0) (pa_cons (pe_glob (v := .ref (g "DuplicateName")) (by rfl) (T.at_ _ (List.mem_of_getElem? (i := 3) rfl)) rfl) pa_nil))) (pa_cons (pe_callB call_isX (by rfl) is (by decide +kernel) (pa_cons (pv 0) (pa_cons (pe_glob (v := .ref (g "InvalidRow")) (by rfl) (T.at_ _ (List.mem_of_getElem? (i := 4) rfl)) rfl) pa_nil))) (pa_cons (pe_callB call_isX (by rfl) is (by decide +kernel) (pa_cons (pv 0) (pa_cons (pe_glob (v := .ref (g "InvalidLayer")) (by rfl) (T.at_ _ (List.mem_of_getElem? (i := 5) rfl)) rfl) pa_nil))) (pa_cons (pe_callB call_isX (by rfl) is (by decide +kernel) (pa_cons (pv 0) (pa_cons (pe_glob (v := .ref (g "InvalidTable")) (by rfl) (T.at_ _ (List.mem_of_getElem? (i := 6) rfl)) rfl) pa_nil))) (pa_cons (pe_callB call_isX (by rfl) is (by decide +kernel) (pa_cons (pv 0) (pa_cons (pe_glob (v := .ref (g "InvalidWay")) (by rfl) (T.at_ _ (List.mem_of_getElem? (i := 7) rfl)) rfl) pa_nil))) (pa_cons (pe_callB call_isX (by rfl) is (by decide +kernel) (pa_cons (pv 0) (pa_cons (pe_glob (v := .ref (g "InvalidPlace")) (by rfl) (T.at_ _ (List.mem_of_getElem? (i := 8) rfl)) rfl) pa_nil))) (pa_cons (pe_callB call_isX (by rfl) is (by decide +kernel) (pa_cons (pv 0) (pa_cons (pe_glob (v := .ref (g "InvalidPoint")) (by rfl) (T.at_ _ (List.mem_of_getElem? (i := 9) rfl)) rfl) pa_nil))) (pa_cons (pe_callB call_isX (by rfl) is (by decide +kernel) (pa_cons (pv 0) (pa_cons (pe_glob (v := .ref (g "InvalidForm")) (by rfl) (T.at_ _ (List.mem_of_getElem? (i := 10) rfl)) rfl) pa_nil))) (pa_cons (pe_callB call_isX (by rfl) is (by decide +kernel) (pa_cons (pv 0) (pa_cons (pe_glob (v := .ref (g "InvalidStep")) (by rfl) (T.at_ _ (List.mem_of_getElem? (i := 11) rfl)) rfl) pa_nil))) (pa_cons (pe_callB call_isX (by rfl) is (by decide +kernel) (pa_cons (pv 0) (pa_cons (pe_glob (v := .ref (g "UnlikeEnds")) (by rfl) (T.at_ _ (List.mem_of_getElem? (i := 12) rfl)) rfl) pa_nil))) pa_nil))))))))))))))), ?_⟩
    refine ⟨_, rfl, a, g nm, fs, nm, .ref (g "InvalidRatio"), .ref (g "InvalidRatio"), _, rfl, hx, T.cls nm hm, .own _, T.kind i 0 _ _ hi rfl, ?_⟩
    refine ⟨_, rfl, a, g nm, fs, nm, .ref (g "InvalidNumber"), .ref (g "InvalidNumber"), _, rfl, hx, T.cls nm hm, .own _, T.kind i 1 _ _ hi rfl, ?_⟩
    refine ⟨_, rfl, a, g nm, fs, nm, .ref (g "InvalidName"), .ref (g "InvalidName"), _, rfl, hx, T.cls nm hm, .own _, T.kind i 2 _ _ hi rfl, ?_⟩
    refine ⟨_, rfl, a, g nm, fs, nm, .ref (g "DuplicateName"), .ref (g "DuplicateName"), _, rfl, hx, T.cls nm hm, .own _, T.kind i 3 _ _ hi rfl, ?_⟩
    refine ⟨_, rfl, a, g nm, fs, nm, .ref (g "InvalidRow"), .ref (g "InvalidRow"), _, rfl, hx, T.cls nm hm, .own _, T.kind i 4 _ _ hi rfl, ?_⟩
    refine ⟨_, rfl, a, g nm, fs, nm, .ref (g "InvalidLayer"), .ref (g "InvalidLayer"), _, rfl, hx, T.cls nm hm, .own _, T.kind i 5 _ _ hi rfl, ?_⟩
    refine ⟨_, rfl, a, g nm, fs, nm, .ref (g "InvalidTable"), .ref (g "InvalidTable"), _, rfl, hx, T.cls nm hm, .own _, T.kind i 6 _ _ hi rfl, ?_⟩
    refine ⟨_, rfl, a, g nm, fs, nm, .ref (g "InvalidWay"), .ref (g "InvalidWay"), _, rfl, hx, T.cls nm hm, .own _, T.kind i 7 _ _ hi rfl, ?_⟩
    refine ⟨_, rfl, a, g nm, fs, nm, .ref (g "InvalidPlace"), .ref (g "InvalidPlace"), _, rfl, hx, T.cls nm hm, .own _, T.kind i 8 _ _ hi rfl, ?_⟩
    refine ⟨_, rfl, a, g nm, fs, nm, .ref (g "InvalidPoint"), .ref (g "InvalidPoint"), _, rfl, hx, T.cls nm hm, .own _, T.kind i 9 _ _ hi rfl, ?_⟩
    refine ⟨_, rfl, a, g nm, fs, nm, .ref (g "InvalidForm"), .ref (g "InvalidForm"), _, rfl, hx, T.cls nm hm, .own _, T.kind i 10 _ _ hi rfl, ?_⟩
    refine ⟨_, rfl, a, g nm, fs, nm, .ref (g "InvalidStep"), .ref (g "InvalidStep"), _, rfl, hx, T.cls nm hm, .own _, T.kind i 11 _ _ hi rfl, ?_⟩
    refine ⟨_, rfl, a, g nm, fs, nm, .ref (g "UnlikeEnds"), .ref (g "UnlikeEnds"), _, rfl, hx, T.cls nm hm, .own _, T.kind i 12 _ _ hi rfl, ?_⟩
    exact ⟨by show 13 ≤ sizeLine; decide, fun D hD => k D hD⟩
theorem scLast : FnScope ["_law_e"] ["_law_e"] (defScope s__law_last_classes) := ⟨rfl, rfl, rfl, by decide +kernel, rfl, by decide +kernel, by decide +kernel⟩
def spLast (K : PySem.W.Frag) (g : Str → Addr) : Sp := fun vs H Q _ => ∃ (a : Addr) (i : Nat) (nm : Str) (fs : List (Str × V)), vs = [.ref a] ∧ EN[i]? = some nm ∧ XoAt H a (g nm) fs ∧ ∀ D, H D = none → Q (.ref D) (upd H D (.lst [V.bl (decide (i = 13)), V.bl (decide (i = 14)), V.bl (decide (i = 15)), V.bl (decide (i = 16)), V.bl (decide (i = 17)), V.bl (decide (i = 18)), V.bl (decide (i = 19)), V.bl (decide (i = 20)), V.bl (decide (i = 21)), V.bl (decide (i = 22)), V.bl (decide (i = 23)), V.bl (decide (i = 24)), V.bl (decide (i = 25)), V.bl (decide (i = 26))]))
theorem ok_last {f : Addr} {fd : FuncData} (F : Fun K "_law_last_classes" "_law_last_classes" s__law_last_classes f fd) (T : KindT K mg g) (is : mg "isinstance" = none) : FnOk P w K mg base CX0 1 f fd ["_law_e"] (spLast K g) := by
  refine F.ok scLast (fun vs H Q E h => ?_) (fun cdv A outer s H vs Q E hr h => ?_)
  · obtain ⟨a, i, nm, fs, rfl, _⟩ := h
    rfl
  · obtain ⟨a, i, nm, fs, rfl, hi, hx, k⟩ := h
    have hm := List.mem_of_getElem? hi
    refine ⟨_, pss_one (ps_ret (pe_lst (pa_cons (pe_callB call_isX (by rfl) is (by decide +kernel) (pa_cons (pv 0) (pa_cons (pe_glob (v := .ref (g "InvalidText")) (by rfl) (T.at_ _ (List.mem_of_getElem? (i := 13) rfl)) rfl) pa_nil))) (pa_cons (pe_callB call_isX (by rfl) is (by decide +kernel) (pa_cons (pv 0) (pa_cons (pe_glob (v := .ref (g "InvalidFact")) (by rfl) (T.at_ _ (List.mem_of_getElem? (i := 14) rfl)) rfl) pa_nil))) (pa_cons (pe_callB call_isX (by rfl) is (by decide +kernel) (pa_cons (pv 0) (pa_cons (pe_glob (v := .ref (g "UnlikeScripts")) (by rfl) (T.at_ _ (List.mem_of_getElem? (i := 15) rfl)) rfl) pa_nil))) (pa_cons (pe_callB call_isX (by rfl) is (by decide +kernel) (pa_cons (pv 0) (pa_cons (pe_glob (v := .ref (g "UnlikeWorlds")) (by rfl) (T.at_ _ (List.mem_of_getElem? (i := 16) rfl)) rfl) pa_nil))) (pa_cons (pe_callB call_isX (by rfl) is (by decide +kernel) (pa_cons (pv 0) (pa_cons (pe_glob (v := .ref (g "HasTests")) (by rfl) (T.at_ _ (List.mem_of_getElem? (i := 17) rfl)) rfl) pa_nil))) (pa_cons (pe_callB call_isX (by rfl) is (by decide +kernel) (pa_cons (pv 0) (pa_cons (pe_glob (v := .ref (g "NoWorld")) (by rfl) (T.at_ _ (List.mem_of_getElem? (i := 18) rfl)) rfl) pa_nil))) (pa_cons (pe_callB call_isX (by rfl) is (by decide +kernel) (pa_cons (pv 0) (pa_cons (pe_glob (v := .ref (g "InvalidCommand")) (by rfl) (T.at_ _ (List.mem_of_getElem? (i := 19) rfl)) rfl) pa_nil))) (pa_cons (pe_callB call_isX (by rfl) is (by decide +kernel) (pa_cons (pv 0) (pa_cons (pe_glob (v := .ref (g "InvalidLimit")) (by rfl) (T.at_ _ (List.mem_of_getElem? (i := 20) rfl)) rfl) pa_nil))) (pa_cons (pe_callB call_isX (by rfl) is (by decide +kernel) (pa_cons (pv 0) (pa_cons (pe_glob (v := .ref (g "Full")) (by rfl) (T.at_ _ (List.mem_of_getElem? (i := 21) rfl)) rfl) pa_nil))) (pa_cons (pe_callB call_isX (by rfl) is (by decide +kernel) (pa_cons (pv 0) (pa_cons (pe_glob (v := .ref (g "InvalidPage")) (by rfl) (T.at_ _ (List.mem_of_getElem? (i := 22) rfl)) rfl) pa_nil))) (pa_cons (pe_callB call_isX (by rfl) is (by decide +kernel) (pa_cons (pv 0) (pa_cons (pe_glob (v := .ref (g "TooMany")) (by rfl) (T.at_ _ (List.mem_of_getElem? (i := 23) rfl)) rfl) pa_nil))) (pa_cons (pe_callB call_isX (by rfl) is (by decide +kernel) (pa_cons (pv 0) (pa_cons (pe_glob (v := .ref (g "UnknownName")) (by rfl) (T.at_ _ (List.mem_of_getElem? (i := 24) rfl)) rfl) pa_nil))) (pa_cons (pe_callB call_isX (by rfl) is (by decide +kernel) (pa_cons (pv 0) (pa_cons (pe_glob (v := .ref (g "UnknownScript")) (by rfl) (T.at_ _ (List.mem_of_getElem? (i := 25) rfl)) rfl) pa_nil))) (pa_cons (pe_callB call_isX (by rfl) is (by decide +kernel) (pa_cons (pv 0) (pa_cons (pe_glob (v := .ref (g "NothingLeft")) (by rfl) (T.at_ _ (List.mem_of_getElem? (i := 26) rfl)) rfl) pa_nil))) pa_nil)))))))))))))))), ?_⟩
    refine ⟨_, rfl, a, g nm, fs, nm, .ref (g "InvalidText"), .ref (g "InvalidText"), _, rfl, hx, T.cls nm hm, .own _, T.kind i 13 _ _ hi rfl, ?_⟩
    refine ⟨_, rfl, a, g nm, fs, nm, .ref (g "InvalidFact"), .ref (g "InvalidFact"), _, rfl, hx, T.cls nm hm, .own _, T.kind i 14 _ _ hi rfl, ?_⟩
    refine ⟨_, rfl, a, g nm, fs, nm, .ref (g "UnlikeScripts"), .ref (g "UnlikeScripts"), _, rfl, hx, T.cls nm hm, .own _, T.kind i 15 _ _ hi rfl, ?_⟩
    refine ⟨_, rfl, a, g nm, fs, nm, .ref (g "UnlikeWorlds"), .ref (g "UnlikeWorlds"), _, rfl, hx, T.cls nm hm, .own _, T.kind i 16 _ _ hi rfl, ?_⟩
    refine ⟨_, rfl, a, g nm, fs, nm, .ref (g "HasTests"), .ref (g "HasTests"), _, rfl, hx, T.cls nm hm, .own _, T.kind i 17 _ _ hi rfl, ?_⟩
    refine ⟨_, rfl, a, g nm, fs, nm, .ref (g "NoWorld"), .ref (g "NoWorld"), _, rfl, hx, T.cls nm hm, .own _, T.kind i 18 _ _ hi rfl, ?_⟩
    refine ⟨_, rfl, a, g nm, fs, nm, .ref (g "InvalidCommand"), .ref (g "InvalidCommand"), _, rfl, hx, T.cls nm hm, .own _, T.kind i 19 _ _ hi rfl, ?_⟩
    refine ⟨_, rfl, a, g nm, fs, nm, .ref (g "InvalidLimit"), .ref (g "InvalidLimit"), _, rfl, hx, T.cls nm hm, .own _, T.kind i 20 _ _ hi rfl, ?_⟩
    refine ⟨_, rfl, a, g nm, fs, nm, .ref (g "Full"), .ref (g "Full"), _, rfl, hx, T.cls nm hm, .own _, T.kind i 21 _ _ hi rfl, ?_⟩
    refine ⟨_, rfl, a, g nm, fs, nm, .ref (g "InvalidPage"), .ref (g "InvalidPage"), _, rfl, hx, T.cls nm hm, .own _, T.kind i 22 _ _ hi rfl, ?_⟩
    refine ⟨_, rfl, a, g nm, fs, nm, .ref (g "TooMany"), .ref (g "TooMany"), _, rfl, hx, T.cls nm hm, .own _, T.kind i 23 _ _ hi rfl, ?_⟩
    refine ⟨_, rfl, a, g nm, fs, nm, .ref (g "UnknownName"), .ref (g "UnknownName"), _, rfl, hx, T.cls nm hm, .own _, T.kind i 24 _ _ hi rfl, ?_⟩
    refine ⟨_, rfl, a, g nm, fs, nm, .ref (g "UnknownScript"), .ref (g "UnknownScript"), _, rfl, hx, T.cls nm hm, .own _, T.kind i 25 _ _ hi rfl, ?_⟩
    refine ⟨_, rfl, a, g nm, fs, nm, .ref (g "NothingLeft"), .ref (g "NothingLeft"), _, rfl, hx, T.cls nm hm, .own _, T.kind i 26 _ _ hi rfl, ?_⟩
    exact ⟨by show 14 ≤ sizeLine; decide, fun D hD => k D hD⟩
end
end Lw

set_option maxRecDepth 100000
/-! Plain calls of defs with a star parameter. -/
namespace VG
open PySem PySem.Spec PyProof.Rows L2
section
variable {X : Cx} {CX : CXT} {k : Nat} {f : Addr} {sp : Sp} {E : XK} {x : Str} {p pos : Pos} {e : Expr} {es : List Expr} {t : TA}
theorem pe_callR (F : FnR X.prog X.w X.K X.mg X.base CX k f sp) (hr : Room k X.A) (hk : PySem.W.keepIn X.K (.ref f) = true) (hg : Gl X x) (hm : X.mg x = some (.ref f)) (hx : Passes CX X E) (ha : PA X (e :: es) t) (n1 : (x == ("__debug__" : Str)) = false := by decide)
    (n2 : starEach (e :: es) X.env = (false, eval e X.env) :: starEach es X.env := by rfl) (n3 : (backTo pos (starEach es X.env)).any (·.1) = false := by rfl) : PE X (.Call (.Name x p) (e :: es) [] pos) (fun σ H Q => t σ H fun vs H1 => sp vs H1 Q E) :=
  ⟨fun pins s σ H Q I q0 => wpAny_Call_Name_kw (ld_glob I hg hm (PySem.W.callWith_K (h₀ := X.base) I.ok.mod.kin hk (thn (ha.run pos pins s σ H _ I q0) fun us s1 ⟨vs, H1, I1, r, q⟩ => ⟨I1.kIn, wpAny_call (codeAny_mono (run_fnR F hr hx I1 r q) fun res s' z => z)⟩) n2 n3) n1)⟩
theorem pe_callR0 (F : FnR X.prog X.w X.K X.mg X.base CX k f sp) (hr : Room k X.A) (hk : PySem.W.keepIn X.K (.ref f) = true) (hg : Gl X x) (hm : X.mg x = some (.ref f)) (hx : Passes CX X E) (n1 : (x == ("__debug__" : Str)) = false := by decide) :
    PE X (.Call (.Name x p) [] [] pos) (fun σ H Q => sp [] H Q E) :=
  ⟨fun pins s σ H Q I q0 => wpAny_Call_Name_kw (ld_glob I hg hm (PySem.W.callWith_K0 I.kIn hk (wpAny_call (codeAny_mono (run_fnR (us := []) F hr hx I .nil q0) fun res s' z => z))) n1)⟩
end
end VG

set_option maxRecDepth 100000
/-! Instances of own classes: ==, != by an own __eq__, repr, len, truth by own methods. -/
namespace VG
open PySem PySem.Spec PyProof.Rows L2
theorem FnOk.toR {P : Program} {w : World} {K : PySem.W.Frag} {mg : Str → Option Value} {base : Heap} {CX : CXT} {k : Nat} {f : Addr} {fd : FuncData} {ps : List Str} {sp : Sp} (F : L2.FnOk P w K mg base CX k f fd ps sp) (hb : L2.Binds K fd ps []) : FnR P w K mg base CX k f sp := by
  intro A outer s H us vs Q E hr e0 r h
  have hl := F.len _ _ _ _ h
  have hk : K.In s.heap := e0.mod.kin.keeps fun b o e => (e0.bs b o e).1
  refine F.run A outer s H ⟨us, []⟩ us vs Q E hr e0 ?_ r h
  have z := hb s us hk (by rw [List.append_nil, ← r.length, hl])
  rw [List.append_nil] at z
  exact z
/-- data stand where an object that is no sequence changes -/
theorem Dp.offI {K : PySem.W.Frag} {H : Hp} {p C dx : Addr} {fs : List (Str × V)} {o : HO} {d : PyData} {v : V} (hp : H p = some (.ins C dx fs)) (h : Dp K H v d) : Dp K (upd H p o) v d :=
  Dp.same (fun b u z => by
    have n : b ≠ p := fun e => by
      rw [e] at z
      have y := (seqs_sub z).1
      unfold VG.seqs at z
      rw [hp] at z
      cases z
    rw [upd_ne n]
    exact (seqs_sub z).1) d v (Dp.seqs d v h)
section
variable {X : Cx} {CX : CXT} {pins : List (Addr × Obj)} {σ : L2.St} {H : Hp} {s : Shared} {a C dx g : Addr} {fs : List (Str × V)} {n : Nat} {sp : Sp} {E : XK}
theorem ins_inst (I : Inv X pins σ H s) (e : H a = some (.ins C dx fs)) : ∃ od, PySem.W.InstAt s.heap a (PySem.W.instObj C dx) C (some od) := by
  obtain ⟨mA, J, _⟩ := ins_get I.hok e
  obtain ⟨od, J, _⟩ := J.look
  exact ⟨od, J⟩
/-- x == y, x an instance of C, whose __eq__ stands at g; y any value -/
def rEqO (K : PySem.W.Frag) (C : Addr) (sp : Sp) (E : XK) : R2 := fun x y H Q => ∃ a dx fs t, x = .ref a ∧ H a = some (.ins C dx fs) ∧ TyX K H y t ∧ PySem.W.notFirst K C t = true ∧ sp [x, y] H Q E
theorem op_eqO (hs : PySem.W.findIn X.K (.ref C) "__eq__" = some (some (.ref g))) (hf : PySem.W.isFn X.K (.ref g) = true) (F : FnR X.prog X.w X.K X.mg X.base CX n g sp) (hr : Room n X.A) (hx : Passes CX X E) : OpR X (compareOp .Eq) (rEqO X.K C sp E) := by
  intro pins s σ H x y v u Q I rx ry h
  obtain ⟨a, dx, fs, t, rfl, ha, ty, hn, q⟩ := h
  cases (show v = Value.ref a from rx)
  obtain ⟨od, J⟩ := ins_inst I ha
  obtain ⟨P, kx, kp, _⟩ := kit_of I ry ty
  obtain ⟨m, hF⟩ := I.fr
  show wpAny _ _ (richCompare .Eq (.ref a) u) _ _ _
  refine PySem.W.cmp_K (op := .Eq) hr.units0 hF I.ok.mod.kin J (kx.ty _ _ I.kIn kp) hn hs hf ?_
  refine wpAny_mono (wpAny_call (run_fnR (us := [.ref a, u]) (vs := [.ref a, y]) F hr hx I (.cons rfl (.cons ry .nil)) q)) (fun w s' z => ?_) fun _ _ x => x
  obtain ⟨z', H', I', rz, qz⟩ := z
  exact SlX.cmpback rz ⟨z', H', I', rz, qz⟩
/-- repr(x), x an instance of C, whose __repr__ stands at g -/
def rReprO (C : Addr) (sp : Sp) (E : XK) : List V → Hp → VK → Prop := fun xs H Q => ∃ a dx fs, xs = [.ref a] ∧ H a = some (.ins C dx fs) ∧ sp xs H (fun v H' => (∃ z, v = .str z) ∧ Q v H') E
theorem call_reprO (hs : PySem.W.findIn X.K (.ref C) "__repr__" = some (some (.ref g))) (hf : PySem.W.isFn X.K (.ref g) = true) (F : FnR X.prog X.w X.K X.mg X.base CX n g sp) (hr : Room (n + 1) X.A) (hx : Passes CX X E) : CallR X (.builtin "repr") (rReprO C sp E) := by
  intro pins s σ H xs us Q I r h
  obtain ⟨a, dx, fs, rfl, ha, q⟩ := h
  obtain ⟨u, rfl, ru⟩ := vals1 r
  cases (show u = Value.ref a from ru)
  obtain ⟨od, J⟩ := ins_inst I ha
  obtain ⟨m, hF⟩ := I.fr
  have hr1 : Room n X.A.in1 := Room.in1 hr
  refine PySem.W.repr_K hr1.units0 hF I.ok.mod.kin J hs hf (wpAny_mono (wpAny_call (SlX.run_at (us := [.ref a]) (ws := [.ref a]) F hr1 I.env0.in1 hx I (.cons rfl .nil) q)) (fun v s' z => ?_) fun _ _ x => x)
  obtain ⟨z', H', I', rz, ⟨y, rfl⟩, qz⟩ := z
  obtain ⟨t, e⟩ := (show ∃ t, v = Value.str y t from rz)
  cases e
  exact ⟨.str y, H', I', ⟨t, rfl⟩, qz⟩
/-- what != by an own __eq__ asks of the class -/
structure NeK (K : PySem.W.Frag) (C g : Addr) : Prop where
  ex : ∃ (of : Obj) (nm q : Str) (N : Addr) (bs : List Value) (hdct : Bool) (sn : List Str) (sub : List Value) (ab : Bool) (col : Option Bool) (dd : Option Addr) (k0 k1 k2 k3 k5 : Option Value) (newId : String) (oc : Value) (od : Option Addr) (es : Array DictEntry) (ep : Nat) (sl : Array (Option Value)),
    K.lookup C = some (excClassObj nm q C N bs [.type "object"] hdct sn sub ab col dd k0 k1 k2 k3 k5 newId) ∧ K.lookup N = some ⟨oc, od, .dict es ep, sl⟩ ∧ StrKeys es ∧ nsFind es "__eq__" = some (.ref g) ∧ nsFind es "__ne__" = none ∧ K.lookup g = some of ∧ of.cls = .type "function"
theorem NeK.own {K : PySem.W.Frag} {C g a dx : Addr} {h : Heap} (N : NeK K C g) (X : K.In h) (e : h.get? a = some (PySem.W.instObj C dx)) : h.OwnEqNoNe a C g "object" [.type "object"] := by
  obtain ⟨of, nm, q, Na, bs, hdct, sn, sub, ab, col, dd, k0, k1, k2, k3, k5, newId, oc, od, es, ep, sl, h1, h2, h3, h4, h5, h6, h7⟩ := N.ex
  exact ⟨_, of, nm, q, Na, bs, hdct, sn, sub, ab, col, dd, k0, k1, k2, k3, k5, newId, nsFind es, _, e, rfl, X _ _ h1, ⟨_, es, ep, X _ _ h2, rfl, h3, fun _ => rfl⟩, h4, X _ _ h6, h7, PySem.F.cmp_object.mro, PySem.F.cmp_object.eq.lookup, h5⟩
/-- x != y, both instances of C -/
def rNeO (C : Addr) (sp : Sp) (E : XK) : R2 := fun x y H Q => ∃ a dx fs b dy gs, x = .ref a ∧ y = .ref b ∧ H a = some (.ins C dx fs) ∧ H b = some (.ins C dy gs) ∧ sp [x, y] H (fun v H' => ∃ c, v = .bl c ∧ Q (.bl (!c)) H') E
theorem op_neO (N : NeK X.K C g) (F : FnR X.prog X.w X.K X.mg X.base CX n g sp) (hr : Room (n + 1) X.A) (hx : Passes CX X E) : OpR X (compareOp .NotEq) (rNeO C sp E) := by
  intro pins s σ H x y v u Q I rx ry h
  obtain ⟨a, dx, fs, b, dy, gs, rfl, rfl, ha, hb, q⟩ := h
  cases (show v = Value.ref a from rx)
  cases (show u = Value.ref b from ry)
  obtain ⟨mA, J, _⟩ := ins_get I.hok ha
  obtain ⟨mB, J', _⟩ := ins_get I.hok hb
  have hr1 : Room n X.A.in1 := Room.in1 hr
  have hu : X.A.units + 1 < cLine := hu_of hr
  have O := N.own I.kIn J.obj
  obtain ⟨hp, gg, d, tk, os⟩ := s
  refine compareOp_ne_ownEq PySem.F.cmp_object O J'.obj rfl hu (wpAny_mono (wpAny_call (SlX.run_at (us := [.ref a, .ref b]) (ws := [.ref a, .ref b]) F hr1 I.env0.in1 hx I (.cons rfl (.cons rfl .nil)) q)) (fun v s' z => ?_) fun _ _ x => x)
  obtain ⟨z', H', I', rz, ⟨c, rfl, qz⟩⟩ := z
  cases (show v = Value.bool c from rz)
  exact ⟨c, rfl, .bl (!c), H', I', rfl, qz⟩
end
end VG

set_option maxRecDepth 100000
/-! What the head is to tell of an own class with an __eq__, as a Bool. -/
namespace VG
open PySem PySem.Spec PyProof.Rows L2
def strKeysB (es : Array DictEntry) : Bool := es.toList.all fun e => match e.key with
  | .str _ _ => true
  | _ => false
theorem strKeysB_ok {es : Array DictEntry} (h : strKeysB es = true) : StrKeys es := fun e he => by
  have z := List.all_eq_true.mp h e (Array.mem_toList_iff.mpr he)
  split at z
  · rename_i n t q
    exact ⟨n, t, q⟩
  · cases z
def neB (K : PySem.W.Frag) (C g : Addr) : Bool := (match K.lookup C with
  | some ⟨.type t, _, .cls cd, sl⟩ => decide (t = "type") && (match cd.mro, sl.toList with
    | [.ref C', .type o], [_, _, _, _, some (.builtin _), _] => decide (C' = C) && (decide (o = "object") && (!cd.hasDel && (match K.lookup cd.ns with
      | some ⟨_, _, .dict es _, _⟩ => strKeysB es && (decide (nsFind es "__eq__" = some (.ref g)) && decide (nsFind es "__ne__" = none))
      | _ => false)))
    | _, _ => false)
  | _ => false) && (match K.lookup g with
  | some ⟨.type t, _, _, _⟩ => decide (t = "function")
  | _ => false)
theorem neB_ok {K : PySem.W.Frag} {C g : Addr} (h : neB K C g = true) : NeK K C g := by
  unfold neB at h
  obtain ⟨h, hg⟩ := Bool.and_eq_true_iff.mp h
  split at hg
  · rename_i tg og dg sg eg
    have htg : tg = "function" := of_decide_eq_true hg
    subst htg
    split at h
    · rename_i t dd cd sl e
      obtain ⟨h1, h2⟩ := Bool.and_eq_true_iff.mp h
      have ht : t = "type" := of_decide_eq_true h1
      split at h2
      · rename_i C' o a0 a1 a2 a3 n a5 e1 e2
        simp only [Bool.and_eq_true, decide_eq_true_eq, Bool.not_eq_true'] at h2
        obtain ⟨g1, g2, g3, g4⟩ := h2
        split at g4
        · rename_i oc od es ep sl2 e3
          simp only [Bool.and_eq_true, decide_eq_true_eq] at g4
          obtain ⟨q1, q2, q3⟩ := g4
          subst ht g1 g2
          obtain ⟨c1, c2, c3, c4, c5, c6, c7, c8, c9, c10, c11⟩ := cd
          have e1 : c3 = [.ref C', .type "object"] := e1
          have g3 : c11 = false := g3
          subst e1 g3
          have es' : sl = #[a0, a1, a2, a3, some (.builtin n), a5] := Array.toList_inj.mp e2
          subst es'
          exact ⟨_, c1, c5, c4, c2, c6, c7, c8, c9, c10, dd, a0, a1, a2, a3, a5, n, oc, od, es, ep, sl2, e, e3, strKeysB_ok q1, q2, q3, eg, rfl⟩
        · cases g4
      · cases h2
    · cases h
  · cases hg
/-- isinstance of its instances -/
def insB (K : PySem.W.Frag) (C : Addr) : Bool := decide (PySem.W.findIn K (.ref C) "__class__" = some (some (.builtin "object.__class__"))) && (decide (PySem.W.specialIn K (.builtin "object.__class__") "__get__" = some (some (.builtin "getset_descriptor.__get__"))) &&
  (decide (PySem.W.takesIn K (.builtin "object.__class__") = some true) && (decide (PySem.W.mroIn K C (.type "object") = some true) && decide (PySem.W.kitOne K (.ref C) (.ref C) = some true))))
theorem insB_ok {K : PySem.W.Frag} {C : Addr} (h : insB K C = true) : PySem.W.findIn K (.ref C) "__class__" = some (some (.builtin "object.__class__")) ∧ PySem.W.specialIn K (.builtin "object.__class__") "__get__" = some (some (.builtin "getset_descriptor.__get__")) ∧
    PySem.W.takesIn K (.builtin "object.__class__") = some true ∧ PySem.W.mroIn K C (.type "object") = some true ∧ PySem.W.kitOne K (.ref C) (.ref C) = some true := by
  unfold insB at h
  simp only [Bool.and_eq_true, decide_eq_true_eq] at h
  exact h
end VG

set_option maxRecDepth 100000
/-! Statements that are not reached; comprehensions within comprehensions; heaps without some objects; lists that grow; methods called with keywords. -/
namespace VG
open PySem PySem.Spec PyProof.Rows L2
theorem ps_false {X : Cx} {st : Stmt} : PS X st (fun _ _ _ => False) := ⟨fun _ _ _ _ _ _ h => h.elim⟩
theorem pss_false {X : Cx} {st : List Stmt} : PSs X st (fun _ _ _ => False) := ⟨fun _ _ _ _ _ _ h => h.elim⟩
/-! ### scopes of comprehensions within comprehensions -/
def retE (st : Stmt) : Expr := match (defBody st).getLast? with
  | some (.Return (some e) _) => e
  | _ => .List [] ⟨0, 0, 0, 0⟩
def lcScope (d : Scope) : Expr → Scope
  | .ListComp _ _ sc _ => sc
  | _ => d
def lcElt : Expr → Expr
  | .ListComp e _ _ _ => e
  | e => e
theorem blkOk_in {N : List Str} {sc sc' scope : Scope} {own : List (Str × Nat)} (e : sc' = sc) (h : blkC N sc scope own = true) : BlkOk N sc' scope own := by
  subst e
  exact blkOk_by h
/-! ### heaps without some objects -/
def wos (S : List Addr) (G : Hp) : Hp := fun b => if b ∈ S then none else G b
theorem wos_in {S : List Addr} {G : Hp} {b : Addr} (h : b ∈ S) : wos S G b = none := if_pos h
theorem wos_out {S : List Addr} {G : Hp} {b : Addr} (h : b ∉ S) : wos S G b = G b := if_neg h
theorem wos_mono {S S' : List Addr} {G G' : Hp} (s : ∀ b ∈ S', b ∈ S) (e : Same G G') : Same (wos S G) (wos S' G') := fun b o h => by
  by_cases z : b ∈ S
  · rw [wos_in z] at h
    cases h
  · rw [wos_out z] at h
    rw [wos_out fun y => z (s b y)]
    exact e b o h
theorem wos_sub {S : List Addr} {G : Hp} : Same (wos S G) G := fun b o h => by
  by_cases z : b ∈ S
  · rw [wos_in z] at h
    cases h
  · rw [wos_out z] at h
    exact h
theorem wos_less {S S' : List Addr} {G : Hp} (s : ∀ b ∈ S', b ∈ S) : Same (wos S G) (wos S' G) := wos_mono s (Same.refl G)
theorem wos_upd {S : List Addr} {G : Hp} {T : Addr} {o : HO} (h : T ∈ S) : wos S (upd G T o) = wos S G := by
  funext b
  by_cases z : b ∈ S
  · rw [wos_in z, wos_in z]
  · rw [wos_out z, wos_out z, upd_ne fun y => z (by rw [y]; exact h)]
/-- all that is not in S stays -/
abbrev Exs (S : List Addr) (H H' : Hp) : Prop := Same (wos S H) (wos S H')
theorem Exs.of {S : List Addr} {G G' : Hp} (e : Same G G') : Exs S G G' := wos_mono (fun _ h => h) e
theorem Exs.but {S : List Addr} {p : Addr} {G G' : Hp} (h : p ∈ S) (e : ∀ b, b ≠ p → G' b = G b) : Exs S G G' := fun b o z => by
  by_cases y : b ∈ S
  · rw [wos_in y] at z
    cases z
  · rw [wos_out y] at z ⊢
    exact (e b fun x => y (x ▸ h)).trans z
theorem Exs.upd {S : List Addr} {G : Hp} {T : Addr} {o : HO} (h : T ∈ S) : Exs S G (upd G T o) := by
  intro b u z
  rw [wos_upd h]
  exact z
theorem Exs.on {S : List Addr} {G G' : Hp} {b : Addr} {o : HO} (e : Exs S G G') (h : b ∉ S) (z : G b = some o) : G' b = some o := by
  have y := e b o (by rw [wos_out h]; exact z)
  rw [wos_out h] at y
  exact y
theorem Exs.mono {S S' : List Addr} {G G' : Hp} (s : ∀ b ∈ S, b ∈ S') (e : Exs S G G') : Exs S' G G' := fun b o z => by
  by_cases y : b ∈ S'
  · rw [wos_in y] at z
    cases z
  · rw [wos_out y] at z ⊢
    exact e.on (fun x => y (s b x)) z
/-- a list that grows at D: what is in it so far stands without D and S -/
structure Acc (K : PySem.W.Frag) (S : List Addr) (D : Addr) (H : Hp) (ds : List PyData) : Prop where
  ex : ∃ acc, H D = some (.lst acc) ∧ DpAll K (wos (D :: S) H) acc ds
theorem Acc.start {K : PySem.W.Frag} {S : List Addr} {D : Addr} {H : Hp} : Acc K S D (upd H D (.lst [])) [] := ⟨⟨[], upd_same, .nil⟩⟩
theorem Acc.on {K : PySem.W.Frag} {S : List Addr} {D : Addr} {H H2 : Hp} {ds : List PyData} (c : Acc K S D H ds) (e : Exs (D :: S) H H2) (hD : ∀ o, H D = some o → H2 D = some o) : Acc K S D H2 ds := by
  obtain ⟨acc, h1, h2⟩ := c.ex
  exact ⟨⟨acc, hD _ h1, DpAll.same e _ _ h2⟩⟩
theorem Acc.more {K : PySem.W.Frag} {S : List Addr} {D : Addr} {H : Hp} {ds : List PyData} {d : PyData} {y : V} (c : Acc K S D H ds) (hy : Dp K (wos (D :: S) H) y d) :
    ∃ acc, H D = some (.lst acc) ∧ acc.length = ds.length ∧ Acc K S D (upd H D (.lst (acc ++ [y]))) (ds ++ [d]) := by
  obtain ⟨acc, h1, h2⟩ := c.ex
  refine ⟨acc, h1, DpAll.len h2, ⟨⟨_, upd_same, ?_⟩⟩⟩
  rw [wos_upd List.mem_cons_self]
  exact VG.DpAll.snoc hy h2
theorem Acc.done {K : PySem.W.Frag} {S : List Addr} {D : Addr} {H : Hp} {ds : List PyData} (c : Acc K S D H ds) (h : D ∉ S) : Dp K (wos S H) (.ref D) (.list ds) := by
  obtain ⟨acc, h1, h2⟩ := c.ex
  exact .lst (SqL.of (by rw [wos_out h]; exact h1)) (DpAll.same (wos_less fun b z => List.mem_cons_of_mem _ z) _ _ h2)
/-- what a list of data is -/
theorem dp_list {K : PySem.W.Frag} {H : Hp} {v : V} {ds : List PyData} (h : Dp K H v (.list ds)) : ∃ a xs, v = .ref a ∧ SqL K H a xs ∧ DpAll K H xs ds := by
  cases h with
  | lst a b => exact ⟨_, _, rfl, a, b⟩
theorem dp_tup {K : PySem.W.Frag} {H : Hp} {v : V} {ds : List PyData} (h : Dp K H v (.tuple ds)) : ∃ a xs, v = .ref a ∧ SqT K H a xs ∧ DpAll K H xs ds := by
  cases h with
  | tup a b => exact ⟨_, _, rfl, a, b⟩
theorem dp_int {K : PySem.W.Frag} {H : Hp} {v : V} {i : Int} (h : Dp K H v (.int i)) : v = .int i := by
  cases h
  rfl
theorem dp_bl {K : PySem.W.Frag} {H : Hp} {v : V} {i : Bool} (h : Dp K H v (.bool i)) : v = .bl i := by
  cases h
  rfl
theorem dpAll2 {K : PySem.W.Frag} {H : Hp} {xs : List V} {a b : PyData} (h : DpAll K H xs [a, b]) : ∃ x y, xs = [x, y] ∧ Dp K H x a ∧ Dp K H y b := by
  cases h with
  | cons h t =>
    cases t with
    | cons h' t =>
      cases t
      exact ⟨_, _, rfl, h, h'⟩
theorem dpAll3 {K : PySem.W.Frag} {H : Hp} {xs : List V} {a b c : PyData} (h : DpAll K H xs [a, b, c]) : ∃ x y z, xs = [x, y, z] ∧ Dp K H x a ∧ Dp K H y b ∧ Dp K H z c := by
  cases h with
  | cons h t =>
    obtain ⟨y, z, rfl, h2, h3⟩ := dpAll2 t
    exact ⟨_, _, _, rfl, h, h2, h3⟩
theorem DpAll.app {K : PySem.W.Frag} {H : Hp} : ∀ {xs ys : List V} {ds es : List PyData}, DpAll K H xs ds → DpAll K H ys es → DpAll K H (xs ++ ys) (ds ++ es)
  | _, _, _, _, .nil, h => h
  | _, _, _, _, .cons a t, h => .cons a (DpAll.app t h)
theorem DpAll.dropn {K : PySem.W.Frag} {H : Hp} : ∀ (n : Nat) {xs : List V} {ds : List PyData}, DpAll K H xs ds → DpAll K H (xs.drop n) (ds.drop n)
  | 0, _, _, h => h
  | n + 1, _, _, .nil => .nil
  | n + 1, _, _, .cons _ t => DpAll.dropn n t
theorem DpAll.takn {K : PySem.W.Frag} {H : Hp} : ∀ (n : Nat) {xs : List V} {ds : List PyData}, DpAll K H xs ds → DpAll K H (xs.take n) (ds.take n)
  | 0, _, _, _ => .nil
  | n + 1, _, _, .nil => .nil
  | n + 1, _, _, .cons a t => .cons a (DpAll.takn n t)
/-! ### methods called with keywords -/
/-- o.m(e, .., k = v, ..) -/
def tMethN (C : Addr) (m : Str) (n j : Nat) (sp : Sp) (gV : List V → List V → List V) (E : XK) (ta : TE) (t tk : TA) : TE := fun σ H Q => ta σ H fun x H1 => ∃ a dx fs, x = .ref a ∧ H1 a = some (.ins C dx fs) ∧ fs.lookup m = none ∧
  t σ H1 fun vs H2 => tk σ H2 fun zs H3 => vs.length = n ∧ zs.length = j ∧ sp (gV (x :: vs) zs) H3 Q E
section
variable {X : Cx} {CX : CXT} {k n : Nat} {C f : Addr} {m : Str} {fd : FuncData} {ps ks : List Str} {sp : Sp} {E : XK} {o e : Expr} {es : List Expr} {apos pos : Pos} {kws : List Keyword} {ta : TE} {t tk : TA} {g : List Value → List Value → List Value} {gV : List V → List V → List V}
theorem pe_methN {pl : Sem Bool} (he : PE X o ta) (c : Cls X.K C) (hm : Meth X.K C m f) (F : FnOk X.prog X.w X.K X.mg X.base CX k f fd ps sp) (hr : Room k X.A) (hb : KBn X.K fd ps (n + 1) ks g gV) (hx : Passes CX X E) (ha : PA X (e :: es) t) (hkw : PK X kws tk)
    (hall : (backToKw pos (keywordEach kws X.env)).all (·.1.isSome) = true := by rfl) (hks : (backToKw pos (keywordEach kws X.env)).filterMap (·.1) = ks := by rfl)
    (hst : starEach (e :: es) X.env = (false, eval e X.env) :: starEach es X.env := by rfl) (hpl : ((backTo pos (starEach (e :: es) X.env)).any (·.1) || (backToKw pos (keywordEach kws X.env)).any (·.1.isNone)) = false := by rfl)
    (ht : eval (.Call (.Attribute o m apos) (e :: es) kws pos) X.env = (do
      let ov ← eval o X.env
      standAt apos.atName
      let (f, first) ← holding [ov] (getMethod ov m pl)
      callWith pos f first (backTo pos (starEach (e :: es) X.env)) (backToKw pos (keywordEach kws X.env))) := by rfl) :
    PE X (.Call (.Attribute o m apos) (e :: es) kws pos) (tMethN C m n ks.length sp gV E ta t tk) := by
  refine ⟨fun pins s σ H Q I h => ?_⟩
  refine PySem.W.methodCall_KW (pl := pl) (thn (he.run pins s σ H _ I h) fun u s1 ⟨x, H1, I1, rx, a, dx, fs, ex, ea, l, q⟩ => ?_) ht
  subst ex
  obtain rfl : u = Value.ref a := rx
  refine getmeth_ok I1 ea c hm l ?_
  refine PySem.W.callWith_KW (first := [.ref a]) (h₀ := X.base) I.ok.mod.kin hm.kp hall (thn (ha.run pos pins s1 σ H1 _ I1 q) fun us s2 ⟨vs, H2, I2, r, q2⟩ => ?_) hpl hst
  refine thn (hkw.run pos pins s2 σ H2 _ I2 q2) fun ws s3 ⟨zs, H3, I3, rz, l1, l2, q3⟩ => ⟨I3.kIn, ?_⟩
  rw [hks]
  exact run_fnN (us := .ref a :: us) (vs := .ref a :: vs) F hr hb hx I3 (.cons rfl r) rz (by rw [List.length_cons, l1]) l2 q3
/-- o.m(k = v, ..) -/
theorem pe_methN0 {pl : Sem Bool} (he : PE X o ta) (c : Cls X.K C) (hm : Meth X.K C m f) (F : FnOk X.prog X.w X.K X.mg X.base CX k f fd ps sp) (hr : Room k X.A) (hb : KBn X.K fd ps 1 ks g gV) (hx : Passes CX X E) (hkw : PK X kws tk)
    (hall : (backToKw pos (keywordEach kws X.env)).all (·.1.isSome) = true := by rfl) (hks : (backToKw pos (keywordEach kws X.env)).filterMap (·.1) = ks := by rfl)
    (hpl : ((backTo pos (starEach [] X.env)).any (·.1) || (backToKw pos (keywordEach kws X.env)).any (·.1.isNone)) = false := by rfl)
    (ht : eval (.Call (.Attribute o m apos) [] kws pos) X.env = (do
      let ov ← eval o X.env
      standAt apos.atName
      let (f, first) ← holding [ov] (getMethod ov m pl)
      callWith pos f first (backTo pos (starEach [] X.env)) (backToKw pos (keywordEach kws X.env))) := by rfl) :
    PE X (.Call (.Attribute o m apos) [] kws pos) (tMethN C m 0 ks.length sp gV E ta tNil tk) := by
  refine ⟨fun pins s σ H Q I h => ?_⟩
  refine PySem.W.methodCall_KW (pl := pl) (thn (he.run pins s σ H _ I h) fun u s1 ⟨x, H1, I1, rx, a, dx, fs, ex, ea, l, q⟩ => ?_) ht
  subst ex
  obtain rfl : u = Value.ref a := rx
  refine getmeth_ok I1 ea c hm l ?_
  refine PySem.W.callWith_KW0 (first := [.ref a]) (h₀ := X.base) I.ok.mod.kin hm.kp hall (thn (hkw.run pos pins s1 σ H1 _ I1 q) fun ws s3 ⟨zs, H3, I3, rz, l1, l2, q3⟩ => ⟨I3.kIn, ?_⟩) hpl
  rw [hks]
  exact run_fnN (us := [.ref a]) (vs := [.ref a]) F hr hb hx I3 (.cons rfl .nil) rz rfl l2 q3
end
end VG

set_option maxRecDepth 100000
/-! zip of two sequences, each a list or a tuple. -/
namespace VG
open PySem PySem.Spec PyProof.Rows L2
inductive Kd | l | t
def Kd.sq (K : PySem.W.Frag) (H : Hp) (a : Addr) (xs : List V) : Kd → Prop
  | .l => SqL K H a xs
  | .t => SqT K H a xs
def Kd.iter (h : Heap) (it a : Addr) (i : Nat) : Kd → Prop
  | .l => h.IsListIter it a i
  | .t => h.IsTupleIter it a i
def Kd.is (h : Heap) (a : Addr) (its : Array Value) : Kd → Prop
  | .l => h.IsList a its
  | .t => h.IsTuple a its
def Kd.obj (a : Addr) : Kd → Obj
  | .l => { cls := .type "list_iterator", data := .fields #[.ref a, .int 0 0] }
  | .t => { cls := .type "tuple_iterator", data := .fields #[.ref a, .int 0 0] }
theorem Kd.same {K : PySem.W.Frag} {H H' : Hp} {a : Addr} {xs : List V} (e : Same H H') : ∀ {k : Kd}, k.sq K H a xs → k.sq K H' a xs
  | .l, h => e.seq h
  | .t, h => Same.tup e h
theorem Kd.draws {P : Program} {w : World} {A : Around} (hh : A.handled = none) (it a : Addr) (hne : a ≠ it) (items : Array Value) : ∀ k : Kd, Draws P w A it [it, a] items.size (fun i v => items[i]? = some v) (fun i h => k.iter h it a i ∧ k.is h a items)
  | .l => Draws.list hh it a hne items
  | .t => Draws.tuple hh it a hne items
theorem Kd.begins (a : Addr) (items : Array Value) : ∀ k : Kd, Begins (.ref a) (k.obj a) fun h => k.is h a items
  | .l => begins_list a items
  | .t => begins_tuple a items
theorem Kd.start {h : Heap} {it a : Addr} : ∀ {k : Kd}, h.get? it = some (k.obj a) → k.iter h it a 0
  | .l, e => ⟨_, e, rfl, rfl⟩
  | .t, e => ⟨_, e, rfl, rfl⟩
theorem Kd.ito {h : Heap} {it a : Addr} {i : Nat} : ∀ {k : Kd}, k.iter h it a i → ∃ o, h.get? it = some o ∧ ∀ v, o.data ≠ .cell v
  | .l, ⟨o, e, _, d⟩ => ⟨o, e, fun v q => by rw [d] at q; cases q⟩
  | .t, ⟨o, e, _, d⟩ => ⟨o, e, fun v q => by rw [d] at q; cases q⟩
theorem Kd.itk {h h' : Heap} {it a : Addr} {i : Nat} : ∀ {k : Kd}, k.iter h it a i → (∀ o, h.get? it = some o → h'.get? it = some o) → k.iter h' it a i
  | .l, h1, f => h1.at fun o q => f o q
  | .t, h1, f => h1.at fun o q => f o q
section
variable {X : Cx} {pins : List (Addr × Obj)} {σ : L2.St} {H : Hp} {s : Shared}
theorem Kd.of (I : Inv X pins σ H s) {a : Addr} {xs : List V} : ∀ {k : Kd}, k.sq X.K H a xs → ∃ its : List Value, Vals xs its ∧ k.is s.heap a its.toArray ∧ a < s.heap.objs.size
  | .l, h => by
    obtain ⟨its, rv, p, _⟩ := I.list h
    exact ⟨its, rv, p.isList, p.lt⟩
  | .t, h => by
    obtain ⟨its, rv, p, _⟩ := I.tuple h
    obtain ⟨o, e, _⟩ := id p
    exact ⟨its, rv, p, Heap.lt_size e⟩
theorem Kd.inj (I : Inv X pins σ H s) {a : Addr} {xs ys : List V} : ∀ {k : Kd}, k.sq X.K H a xs → k.sq X.K H a ys → xs = ys
  | .l, h, h' => I.list_inj h h'
  | .t, h, h' => I.tuple_inj h h'
end
/-- the items of two sequences, in new pairs -/
def ItzG (K : PySem.W.Frag) (k1 k2 : Kd) (a b : Addr) : It :=
  ⟨fun i H => ∃ (xs ys : List V) (x y : V), k1.sq K H a xs ∧ k2.sq K H b ys ∧ xs[i]? = some x ∧ ys[i]? = some y,
    fun i H v H' => ∃ T x y, v = .ref T ∧ H T = none ∧ H' = upd H T (.tup [x, y]) ∧ (∀ xs, k1.sq K H a xs → xs[i]? = some x) ∧ ∀ ys, k2.sq K H b ys → ys[i]? = some y,
    fun i H => ∃ xs ys : List V, k1.sq K H a xs ∧ k2.sq K H b ys ∧ ((xs.length = i ∧ i ≤ ys.length) ∨ (ys.length = i ∧ i ≤ xs.length))⟩
theorem apart_sep {z TI TO i1 i2 a b : Addr} (D : ZipApart z TI TO i1 i2 a b) : ZipSep2 z TI TO i1 i2 [i1, a] [i2, b] where
  TIz := D.TIz
  TOz := D.TOz
  TITO := D.TITO
  TIi1 := D.TIi1
  mem1 := by simp
  zf1 := by simp [D.i1z.symm, D.l1z.symm]
  Tf1 := by simp [D.TOi1, D.l1TO.symm]
  TIi2 := D.TIi2
  mem2 := by simp
  zf2 := by simp [D.i2z.symm, D.l2z.symm]
  Tf2 := by simp [D.TOi2, D.l2TO.symm]
  sep1_2 := by simp [D.i12, D.l2i1.symm]
  sep2_1 := by simp [D.i12.symm, D.l1i2.symm]
theorem turn_zipG {P : Program} {w : World} {K : PySem.W.Frag} {elts : List Expr} {kk : Nat} {tpos : Pos} {k1 k2 : Kd} {a b z TI TO i1 i2 : Addr} (D : ZipApart z TI TO i1 i2 a b) :
    Turn P w K (.Tuple elts kk tpos) (ItzG K k1 k2 a b) [z, TI, TO, i1, i2] z (fun i h => IsZip h z TI TO .none ∧ IsTupOf2 h TI (.ref i1) (.ref i2) ∧ (∃ x y, IsTupOf2 h TO x y) ∧ k1.iter h i1 a i ∧ k2.iter h i2 b i) where
  mem := by simp
  obj := fun i h st c hc => by
    obtain ⟨hz, hTI, ⟨x, y, hTO⟩, e1, e2⟩ := st
    have e' : c = z ∨ c = TI ∨ c = TO ∨ c = i1 ∨ c = i2 := by simpa using hc
    rcases e' with q | q | q | q | q
    · rw [q]; exact ⟨_, hz, fun v q => nomatch q⟩
    · rw [q]; exact ⟨_, hTI, fun v q => nomatch q⟩
    · rw [q]; exact ⟨_, hTO, fun v q => nomatch q⟩
    · rw [q]; exact Kd.ito e1
    · rw [q]; exact Kd.ito e2
  keep := fun i h h' st k => by
    obtain ⟨hz, hTI, ⟨x, y, hTO⟩, h1, h2⟩ := st
    exact ⟨k z (by simp) _ hz, k TI (by simp) _ hTI, ⟨x, y, k TO (by simp) _ hTO⟩, Kd.itk h1 fun o q => k i1 (by simp) o q, Kd.itk h2 fun o q => k i2 (by simp) o q⟩
  item := by
    intro X hP hw hK hc i pins s σ H E I hf st hg
    subst hP hw hK
    obtain ⟨hz, hTI, ⟨x0, y0, hTO⟩, h1, h2⟩ := st
    obtain ⟨xs, ys, x, y, hqx, hqy, hx, hy⟩ := hg
    obtain ⟨its, rv, p, _⟩ := Kd.of I hqx
    obtain ⟨its2, rv2, p2, _⟩ := Kd.of I hqy
    obtain ⟨u, hu, ru⟩ := rv.get hx
    obtain ⟨u2, hu2, ru2⟩ := rv2.get hy
    have hzl : z < s.heap.objs.size := Heap.lt_size hz
    have lt1 : i < its.toArray.size := by
      obtain ⟨q, _⟩ := List.getElem?_eq_some_iff.mp hu
      simpa using q
    have lt2 : i < its2.toArray.size := by
      obtain ⟨q, _⟩ := List.getElem?_eq_some_iff.mp hu2
      simpa using q
    refine wpAny_pyNext_zipD2_item (apart_sep D) (Kd.draws (A := X.A.in1) (I.ok.hd hc) i1 a D.l1i1 its.toArray k1) (Kd.draws (A := X.A.in1) (I.ok.hd hc) i2 b D.l2i2 its2.toArray k2) hz hTI hTO ⟨h1, p⟩ ⟨h2, p2⟩ lt1 lt2 fun v1 v2 h' tk q1 q2 z' TO' st1' st2' hT hsz hk => ?_
    have ev1 : v1 = u := by
      have q1 : its.toArray[i]? = some v1 := q1
      have y : its.toArray[i]? = some u := by simpa using hu
      rw [y] at q1
      exact (Option.some.inj q1).symm
    have ev2 : v2 = u2 := by
      have q2 : its2.toArray[i]? = some v2 := q2
      have y : its2.toArray[i]? = some u2 := by simpa using hu2
      rw [y] at q2
      exact (Option.some.inj q2).symm
    subst ev1 ev2
    refine ⟨_, rfl, wpAny_letOwnedTupleGo_zip (s := { s with heap := h', toks := tk }) z' fun h'' z'' sb => ?_⟩
    have hT2 : h''.get? s.heap.objs.size = some { cls := .type "tuple", data := .seq #[v1, v2] } := (sb.2 _ (Nat.ne_of_gt hzl)).trans hT
    have new : ObjOk X.prog X.w (upd H s.heap.objs.size (.tup [x, y])) h'' s.heap.objs.size (.tup [x, y]) :=
      ⟨by show 2 ≤ sizeLine; decide, [v1, v2], .cons ru (.cons ru2 .nil), ⟨_, hT2, rfl, _, rfl⟩⟩
    have I1 : Inv X pins σ (upd H s.heap.objs.size (.tup [x, y])) { s with heap := h'', toks := tk } :=
      I.turnedNew (t' := tk) (ch := [z, TI, TO, i1, i2]) (fun c o hb q => (sb.2 c (fun q' => hb (by simp [q']))).trans (hk c o (fun q' => hb (by simp [q'])) (fun q' => hb (by simp [q'])) (fun q' => hb (by simp [q'])) (fun q' => hb (by simp [q'])) q)) hf (Nat.le_refl _) new
    refine ⟨.ref s.heap.objs.size, _, I1, rfl, ⟨_, x, y, rfl, I.hok.fresh (Nat.le_refl _), rfl, fun l hl => by rw [Kd.inj I hl hqx]; exact hx, fun l hl => by rw [Kd.inj I hl hqy]; exact hy⟩, ⟨z'', ?_, ⟨v1, v2, ?_⟩, ?_, ?_⟩, fun c hcm => ?_⟩
    · exact (sb.2 _ D.TIz).trans (hk _ _ D.TIz D.TITO D.TIi1 D.TIi2 hTI)
    · exact (sb.2 _ D.TOz).trans TO'
    · exact Kd.itk st1'.1 fun o q => (sb.2 _ D.i1z).trans q
    · exact Kd.itk st2'.1 fun o q => (sb.2 _ D.i2z).trans q
    · have hlt : c < s.heap.objs.size := by
        have e' : c = z ∨ c = TI ∨ c = TO ∨ c = i1 ∨ c = i2 := by simpa using hcm
        rcases e' with q | q | q | q | q
        · rw [q]; exact hzl
        · rw [q]; exact Heap.lt_size hTI
        · rw [q]; exact Heap.lt_size hTO
        · rw [q]; obtain ⟨_, e1, _⟩ := Kd.ito h1; exact Heap.lt_size e1
        · rw [q]; obtain ⟨_, e2, _⟩ := Kd.ito h2; exact Heap.lt_size e2
      rw [upd_ne (Nat.ne_of_lt hlt)]
      exact (hf c hcm).1
  done := by
    intro X hP hw hK hc i pins s σ H E I hf st hg
    subst hP hw hK
    obtain ⟨hz, hTI, ⟨x0, y0, hTO⟩, h1, h2⟩ := st
    obtain ⟨xs, ys, hqx, hqy, hend⟩ := hg
    obtain ⟨its, rv, p, _⟩ := Kd.of I hqx
    obtain ⟨its2, rv2, p2, _⟩ := Kd.of I hqy
    have l1 : its.toArray.size = xs.length := by
      have := rv.length
      simp; omega
    have l2 : its2.toArray.size = ys.length := by
      have := rv2.length
      simp; omega
    refine wpAny_pyNext_zipD2_end (apart_sep D) (Kd.draws (A := X.A.in1) (I.ok.hd hc) i1 a D.l1i1 its.toArray k1) (Kd.draws (A := X.A.in1) (I.ok.hd hc) i2 b D.l2i2 its2.toArray k2) hz hTI hTO ⟨h1, p⟩ ⟨h2, p2⟩ (by omega) (by omega) (by omega) fun h' tk hk => ⟨rfl, I.turnedL (t' := tk) (ch := [z, TI, TO, i1, i2]) (fun c o hb q =>
      hk c o (fun q' => hb (by simp [q'])) (fun q' => hb (by simp [q'])) (fun q' => hb (by simp [q'])) (fun q' => hb (by simp [q'])) q) hf⟩
  self := fun A i s Q E st h => wpAny_pyIter_zip st.1 h
def iZipG (K : PySem.W.Frag) (ta : TA) : TI := fun σ H R => ta σ H fun vs H1 => ∃ a b k1 k2 xs ys, vs = [.ref a, .ref b] ∧ Kd.sq K H1 a xs k1 ∧ Kd.sq K H1 b ys k2 ∧ R (ItzG K k1 k2 a b) H1
theorem pi_zipG {X : Cx} {e e2 : Expr} {ta : TA} {p pos tpos : Pos} {elts : List Expr} {kk : Nat} (hg : Gl X "zip") (hm : X.mg "zip" = none) (ha : PA X [e, e2] ta)
    (hs : starEach [e, e2] X.env = (false, eval e X.env) :: starEach [e2] X.env := by rfl) (hpl : (backTo pos (starEach [e2] X.env)).any (·.1) = false := by rfl) :
    PI X (.Tuple elts kk tpos) (.Call (.Name "zip" p) [e, e2] [] pos) (iZipG X.K ta) := by
  refine ⟨fun pins s σ H R I h => ?_⟩
  refine Call_ (ld_blt I hg hm PyProof.Rows.boot_zip (PyProof.Rows.callWith_type1 (thn (ha.run pos pins s σ H _ I h) fun us s1 ⟨vs, H1, I1, r1, q1⟩ => ?_) hs hpl))
  obtain ⟨a, b, k1, k2, xs, ys, ex, hqx, hqy, q⟩ := q1
  subst ex
  cases r1 with
  | cons r rr =>
    cases rr with
    | cons r' rr =>
      cases rr
      cases r
      cases r'
      have fresh5 : ∀ c, c ∈ [s1.heap.objs.size + 4, s1.heap.objs.size + 2, s1.heap.objs.size + 3, s1.heap.objs.size, s1.heap.objs.size + 1] → FpOk X pins H1 c := fun c hcm => by
        have e' : c = s1.heap.objs.size + 4 ∨ c = s1.heap.objs.size + 2 ∨ c = s1.heap.objs.size + 3 ∨ c = s1.heap.objs.size ∨ c = s1.heap.objs.size + 1 := by simpa using hcm
        have hle : s1.heap.objs.size ≤ c := by
          rcases e' with z | z | z | z | z
          · rw [z]; exact Nat.le_add_right _ _
          · rw [z]; exact Nat.le_add_right _ _
          · rw [z]; exact Nat.le_add_right _ _
          · rw [z]; exact Nat.le_refl _
          · rw [z]; exact Nat.le_add_right _ _
        exact I1.fpOk hle (I1.hok.fresh hle)
      obtain ⟨its, rv, p1, lt1⟩ := Kd.of I1 hqx
      obtain ⟨its2, rv2, p2, lt2⟩ := Kd.of I1 hqy
      refine zip_begins2 (Kd.begins a its.toArray k1) (Kd.begins b its2.toArray k2) p1 p2 fun h' hz hTI hTO h1 h2 hsz hk => wpAny_pyIter_zip hz ?_
      have I2 : Inv X pins σ H1 { s1 with heap := h' } := I1.kept (t' := s1.toks) hk
      exact ⟨s1.heap.objs.size + 4, [s1.heap.objs.size + 4, s1.heap.objs.size + 2, s1.heap.objs.size + 3, s1.heap.objs.size, s1.heap.objs.size + 1], _, _, H1, rfl, I2, turn_zipG (PySem.W.ktu_apart s1.heap.objs.size a b lt1 lt2), ⟨hz, hTI, ⟨_, _, hTO⟩, Kd.start h1, Kd.start h2⟩, fresh5, q⟩
/-- a comprehension over zip of two sequences of one length -/
theorem lc_zipG {K : PySem.W.Frag} {k1 k2 : Kd} {a b : Addr} {xs ys : List V} {g : TG} {tt : TT} {te : TE} {vs : List Nat} {σ : L2.St} {H1 : Hp} {D : Addr} {Qd : Hp → Prop} (hl : xs.length = ys.length) (Pv : Nat → Hp → Prop) (h0 : Pv 0 (upd H1 D (.lst []))) (hq : ∀ i H, i ≤ xs.length → Pv i H → k1.sq K H a xs ∧ k2.sq K H b ys)
    (hs : ∀ i x y T H, xs[i]? = some x → ys[i]? = some y → Pv i H → H T = none → g (.ref T) (wipe σ vs) (upd H T (.tup [x, y])) fun σ2 H2 => wipe σ2 vs = wipe σ vs ∧ tt σ2 H2 fun b H3 =>
      if b = true then te σ2 H3 fun y H4 => ∃ acc, H4 D = some (.lst acc) ∧ acc.length < sizeLine ∧ Pv (i + 1) (upd H4 D (.lst (acc ++ [y]))) else Pv (i + 1) H3) (hd : ∀ H, Pv xs.length H → Qd H) :
    ∃ W : Nat → Nat → Hp → Prop, (∃ m, W 0 m (upd H1 D (.lst []))) ∧ ∀ i m H, W i m H →
      ((ItzG K k1 k2 a b).stop i H ∧ Qd H) ∨ ((ItzG K k1 k2 a b).go i H ∧ ∃ Nx : Hp → Prop, (∀ H', Nx H' → ∃ m', m' < m ∧ W (i + 1) m' H') ∧ ∀ x H', (ItzG K k1 k2 a b).yld i H x H' → g x (wipe σ vs) H' fun σ2 H2 => wipe σ2 vs = wipe σ vs ∧ tt σ2 H2 fun b H3 =>
        if b = true then te σ2 H3 fun y H4 => ∃ acc, H4 D = some (.lst acc) ∧ acc.length < sizeLine ∧ Nx (upd H4 D (.lst (acc ++ [y]))) else Nx H3) := by
  refine ⟨fun i m H => m = xs.length - i ∧ i ≤ xs.length ∧ Pv i H, ⟨xs.length, by simp, Nat.zero_le _, h0⟩, ?_⟩
  rintro i m H ⟨rfl, hi, p⟩
  obtain ⟨qx, qy⟩ := hq i H hi p
  by_cases hlt : i < xs.length
  · have hx : xs[i]? = some xs[i] := List.getElem?_eq_getElem hlt
    have hlt2 : i < ys.length := by omega
    have hy : ys[i]? = some ys[i] := List.getElem?_eq_getElem hlt2
    refine .inr ⟨⟨xs, ys, _, _, qx, qy, hx, hy⟩, Pv (i + 1), fun H' p' => ⟨xs.length - (i + 1), by omega, rfl, hlt, p'⟩, fun v H' y => ?_⟩
    obtain ⟨T, x', y', rfl, hT, rfl, f1, f2⟩ := y
    exact hs i x' y' T H (f1 xs qx) (f2 ys qy) p hT
  · have e : i = xs.length := by omega
    subst e
    exact .inl ⟨⟨xs, ys, qx, qy, .inl ⟨rfl, by omega⟩⟩, hd H p⟩
/-! ### one sequence, a list or a tuple -/
def Kd.it (K : PySem.W.Frag) (a : Addr) : Kd → It
  | .l => Itl K a
  | .t => Itt K a
def iA (K : PySem.W.Frag) (tl : TE) : TI := fun σ H R => ∃ k : Kd, tl σ H fun x H1 => ∃ a, x = .ref a ∧ (∃ xs, k.sq K H1 a xs) ∧ R (k.it K a) H1
theorem pi_A {X : Cx} {tg l : Expr} {tl : TE} (hl : PE X l tl) : PI X tg l (iA X.K tl) := by
  refine ⟨fun pins s σ H R I h => ?_⟩
  obtain ⟨k, h⟩ := h
  cases k with
  | l => exact (pi_list (tg := tg) hl).run pins s σ H R I h
  | t => exact (pi_tup (tg := tg) hl).run pins s σ H R I h
theorem lc_A {K : PySem.W.Frag} {k : Kd} {a : Addr} {xs : List V} {g : TG} {tt : TT} {te : TE} {vs : List Nat} {σ : L2.St} {H1 : Hp} {D : Addr} {Qd : Hp → Prop} (Pv : Nat → Hp → Prop) (h0 : Pv 0 (upd H1 D (.lst []))) (hl : ∀ i H, i ≤ xs.length → Pv i H → k.sq K H a xs)
    (hs : ∀ i x H, xs[i]? = some x → Pv i H → g x (wipe σ vs) H fun σ2 H2 => wipe σ2 vs = wipe σ vs ∧ tt σ2 H2 fun b H3 =>
      if b = true then te σ2 H3 fun y H4 => ∃ acc, H4 D = some (.lst acc) ∧ acc.length < sizeLine ∧ Pv (i + 1) (upd H4 D (.lst (acc ++ [y]))) else Pv (i + 1) H3) (hd : ∀ H, Pv xs.length H → Qd H) :
    ∃ W : Nat → Nat → Hp → Prop, (∃ m, W 0 m (upd H1 D (.lst []))) ∧ ∀ i m H, W i m H →
      ((k.it K a).stop i H ∧ Qd H) ∨ ((k.it K a).go i H ∧ ∃ Nx : Hp → Prop, (∀ H', Nx H' → ∃ m', m' < m ∧ W (i + 1) m' H') ∧ ∀ x H', (k.it K a).yld i H x H' → g x (wipe σ vs) H' fun σ2 H2 => wipe σ2 vs = wipe σ vs ∧ tt σ2 H2 fun b H3 =>
        if b = true then te σ2 H3 fun y H4 => ∃ acc, H4 D = some (.lst acc) ∧ acc.length < sizeLine ∧ Nx (upd H4 D (.lst (acc ++ [y]))) else Nx H3) := by
  cases k with
  | l => exact lc_list (K := K) (a := a) (xs := xs) Pv h0 hl hs hd
  | t => exact lc_tup (K := K) (a := a) (xs := xs) Pv h0 hl hs hd
/-- data that are a list or a tuple -/
theorem dp_seq {K : PySem.W.Frag} {H : Hp} {v : V} {d : PyData} {ds : List PyData} (h : Dp K H v d) (e : d = .list ds ∨ d = .tuple ds) : ∃ (k : Kd) (a : Addr) (xs : List V), v = .ref a ∧ k.sq K H a xs ∧ DpAll K H xs ds := by
  rcases e with rfl | rfl
  · obtain ⟨a, xs, h1, h2, h3⟩ := dp_list h
    exact ⟨.l, a, xs, h1, h2, h3⟩
  · obtain ⟨a, xs, h1, h2, h3⟩ := dp_tup h
    exact ⟨.t, a, xs, h1, h2, h3⟩
theorem Kd.len {K : PySem.W.Frag} {H : Hp} {a : Addr} {xs : List V} : ∀ {k : Kd}, k.sq K H a xs → SqL K H a xs ∨ SqT K H a xs
  | .l, h => .inl h
  | .t, h => .inr h
end VG

set_option maxRecDepth 100000
/-! Data without lists. -/
namespace VG
open PySem PySem.Spec PyProof.Rows L2
mutual
def noL : PyData → Bool
  | .list _ => false
  | .dict _ => false
  | .tuple ds => noLs ds
  | _ => true
def noLs : List PyData → Bool
  | [] => true
  | d :: ds => noL d && noLs ds
end
theorem sqT_wos {K : PySem.W.Frag} {S : List Addr} {G : Hp} {a : Addr} {xs : List V} (hS : ∀ b ∈ S, ∃ ys, G b = some (.lst ys)) (h : SqT K G a xs) : SqT K (wos S G) a xs := by
  have off : ∀ {o : HO}, G a = some o → (∀ ys, o ≠ .lst ys) → wos S G a = some o := fun {o} e n => by
    rw [wos_out]
    · exact e
    · intro z
      obtain ⟨ys, hy⟩ := hS a z
      rw [e] at hy
      exact n ys (Option.some.inj hy)
  rcases h with (h | ⟨o, h⟩) | h
  · exact .inl (.inl (off h fun _ z => nomatch z))
  · exact .inl (.inr ⟨o, off h fun _ z => nomatch z⟩)
  · exact .inr h
mutual
theorem Dp.wosT {K : PySem.W.Frag} {S : List Addr} {G : Hp} (hS : ∀ b ∈ S, ∃ ys, G b = some (.lst ys)) : ∀ (d : PyData) (v : V), noL d = true → Dp K G v d → Dp K (wos S G) v d
  | .none, _, _, h => by cases h; exact .non
  | .bool b, _, _, h => by cases h; exact .bl b
  | .int i, _, _, h => by cases h; exact .int i
  | .str x, _, _, h => by cases h; exact .str x
  | .list ds, _, n, _ => by cases n
  | .tuple ds, _, n, h => by
    cases h with
    | tup a b => exact .tup (sqT_wos hS a) (DpAll.wosT hS ds _ n b)
  | .dict _, _, n, _ => by cases n
theorem DpAll.wosT {K : PySem.W.Frag} {S : List Addr} {G : Hp} (hS : ∀ b ∈ S, ∃ ys, G b = some (.lst ys)) : ∀ (ds : List PyData) (vs : List V), noLs ds = true → DpAll K G vs ds → DpAll K (wos S G) vs ds
  | [], _, _, h => by cases h; exact .nil
  | d :: ds, _, n, h => by
    obtain ⟨n1, n2⟩ := Bool.and_eq_true_iff.mp (show (noL d && noLs ds) = true from n)
    cases h with
    | cons a b => exact .cons (Dp.wosT hS d _ n1 a) (DpAll.wosT hS ds _ n2 b)
end
theorem noLs_of {ds : List PyData} (h : ∀ d ∈ ds, noL d = true) : noLs ds = true := by
  induction ds with
  | nil => rfl
  | cons d ds ih =>
    show (noL d && noLs ds) = true
    rw [h d List.mem_cons_self, ih fun e he => h e (List.mem_cons_of_mem _ he)]
    rfl
/-- data on new addresses stand without what was there ahead -/
theorem newer_wos {S : List Addr} {H G : Hp} (hS : ∀ b ∈ S, ∃ o, H b = some o) : Same (newer H G) (wos S G) := fun b o e => by
  cases z : H b with
  | some u =>
    rw [newer_none z] at e
    cases e
  | none =>
    rw [newer_at z] at e
    rw [wos_out]
    · exact e
    · intro y
      obtain ⟨u, hu⟩ := hS b y
      rw [z] at hu
      cases hu
/-- a list that grows, of data without lists -/
theorem Acc.put {K : PySem.W.Frag} {S : List Addr} {D : Addr} {H G : Hp} {ds : List PyData} {d : PyData} {y : V} (c : Acc K S D H ds) (e : Same H G) (hS : ∀ b ∈ S, ∃ ys, G b = some (.lst ys)) (n : noL d = true) (hy : Dp K G y d) :
    ∃ acc, G D = some (.lst acc) ∧ acc.length = ds.length ∧ Acc K S D (upd G D (.lst (acc ++ [y]))) (ds ++ [d]) := by
  have c2 := c.on (Exs.of e) fun o h => e D o h
  obtain ⟨acc, h1, _⟩ := c2.ex
  exact c2.more (Dp.wosT (fun b hb => by
    rcases List.mem_cons.mp hb with rfl | hb
    · exact ⟨_, h1⟩
    · exact hS b hb) d y n hy)
/-- a plain call of a def with a star parameter, its reading named (for comprehensions) -/
def tCallR (sp : Sp) (E : XK) (t : TA) : TE := fun σ H Q => t σ H fun vs H1 => sp vs H1 Q E
theorem pe_named {X : Cx} {e : Expr} {sp : Sp} {E : XK} {t : TA} (h : PE X e (fun σ H Q => t σ H fun vs H1 => sp vs H1 Q E)) : PE X e (tCallR sp E t) := h
end VG

set_option maxRecDepth 100000
/-! enumerate of a sequence, a list or a tuple. -/
namespace VG
open PySem PySem.Spec PyProof.Rows L2
set_option maxHeartbeats 1000000 in
theorem meets_enum1 {v : Value} {o : Obj} {H : Heap → Prop} (B : Begins v o H) :
    Meets (Builtin.«enumerate.__new__» ⟨[.type "enumerate", v], []⟩) (fun _ R s => H s.heap ∧
      R (.ok (.ret (.ref (s.heap.push o).objs.size))) { s with heap := (s.heap.push o).push { cls := .type "enumerate", data := .fields #[.none, .bool false, .ref s.heap.objs.size, rawInt 0, .none, .none] } }) :=
  .of_wp fun prog w A R s h => by
    obtain ⟨hp, g, d, tk, os⟩ := s
    obtain ⟨h1, h⟩ := h
    have hsub := sub_enumerate
    have q1 : ∀ {B' : Around} {E : Value → Shared → Prop} {Q : Value → Shared → Prop}, Q (.ref hp.objs.size) ⟨hp.push o, g, d, tk, os⟩ → wpAny (model prog w) B' (pyIter v) Q E ⟨hp, g, d, tk, os⟩ := fun q => B.iter prog w _ _ ⟨hp, g, d, tk, os⟩ _ h1 q
    wp_walk using q1
    refine wpAny_stack_any fun st => wpAny_pure ?_
    split
    · rename_i c _ _ _ _ _
      cases (c == Value.type "enumerate") <;> (wp_walk using q1; exact ⟨_, rfl, h⟩)
    · wp_walk using q1
      exact ⟨_, rfl, h⟩
section
variable {prog : Program} {w : World} {A : Around} {E : Value → Shared → Prop} {s : Shared}
theorem call_enum1 {v : Value} {o : Obj} {H : Heap → Prop} {Q : Value → Shared → Prop} (B : Begins v o H) (h1 : H s.heap)
    (h : ∀ h', IsEnum h' (s.heap.objs.size + 1) s.heap.objs.size 0 .none → h'.get? s.heap.objs.size = some o → (∀ b o, s.heap.get? b = some o → h'.get? b = some o) → Q (.ref (s.heap.objs.size + 1)) { s with heap := h' }) :
    wpAny (model prog w) A (call (.type "enumerate") [v]) Q E s := by
  refine callType_new F.called_enumerate (by decide) (F.typeCall_enumerate_1 _) (F.newCall_enumerate_1 _) (fun obj => F.args_object_init_2 obj _) F.entry_enumerate_new (meets_enum1 B) ⟨h1, ?_⟩
  have hz : (s.heap.push o).objs.size = s.heap.objs.size + 1 := Heap.size_push ..
  have he : IsEnum ((s.heap.push o).push { cls := .type "enumerate", data := .fields #[.none, .bool false, .ref s.heap.objs.size, rawInt 0, .none, .none] }) (s.heap.objs.size + 1) s.heap.objs.size 0 .none := by
    have z := Heap.get?_push_size (s.heap.push o) (o := { cls := .type "enumerate", data := .fields #[.none, .bool false, .ref s.heap.objs.size, rawInt 0, .none, .none] }) rfl
    rw [hz] at z
    exact z
  show _ ∧ _
  rw [hz]
  exact ⟨⟨_, he, rfl⟩, h _ he (Heap.get?_push_of_some _ (Heap.get?_push_size _ B.free)) fun b o x => Heap.get?_push_of_some _ (Heap.get?_push_of_some _ x)⟩
end
/-- the items of a sequence, with their numbers, in new pairs -/
def IteG (K : PySem.W.Frag) (k : Kd) (a : Addr) : It :=
  ⟨fun i H => ∃ (xs : List V) (x : V), k.sq K H a xs ∧ xs[i]? = some x, fun i H v H' => ∃ T x, v = .ref T ∧ H T = none ∧ H' = upd H T (.tup [.int (i : Nat), x]) ∧ ∀ xs, k.sq K H a xs → xs[i]? = some x, fun i H => ∃ xs : List V, k.sq K H a xs ∧ xs.length = i⟩
theorem turn_enumG {P : Program} {w : World} {K : PySem.W.Frag} {elts : List Expr} {kk : Nat} {tpos : Pos} {k : Kd} {a e it : Addr} (n1 : a ≠ it) (n2 : a ≠ e) (n3 : e ≠ it) :
    Turn P w K (.Tuple elts kk tpos) (IteG K k a) [e, it] e (fun i h => (∃ old, IsEnum h e it ((i : Nat) : Int) old) ∧ k.iter h it a i) where
  mem := by simp
  obj := fun i h st b hb => by
    obtain ⟨⟨old, he⟩, hi⟩ := st
    rcases (show b = e ∨ b = it by simpa using hb) with rfl | rfl
    · exact ⟨_, he, fun v q => nomatch q⟩
    · exact Kd.ito hi
  keep := fun i h h' st f => by
    obtain ⟨⟨old, he⟩, hi⟩ := st
    exact ⟨⟨old, f e (by simp) _ he⟩, Kd.itk hi fun o q => f it (by simp) o q⟩
  item := by
    intro X hP hw hK hc i pins s σ H E I hf st hg
    subst hP hw hK
    obtain ⟨⟨old, he⟩, hit⟩ := st
    obtain ⟨xs, x, hq, hx⟩ := hg
    obtain ⟨its, rv, p, _⟩ := Kd.of I hq
    obtain ⟨u, hu, ru⟩ := rv.get hx
    have hel : e < s.heap.objs.size := Heap.lt_size he
    have hil : it < s.heap.objs.size := by
      obtain ⟨_, q, _⟩ := Kd.ito hit
      exact Heap.lt_size q
    have lt : i < its.toArray.size := by
      obtain ⟨q, _⟩ := List.getElem?_eq_some_iff.mp hu
      simpa using q
    refine wpAny_pyNext_enum_itemC (Kd.draws (A := X.A.in1) (I.ok.hd hc) it a n1 its.toArray k) he ⟨hit, p⟩ lt n3 (by simp [n3, n2.symm]) fun v h' tk q1 ho hs hT hsz hk => ?_
    have ev : v = u := by
      have q1 : its.toArray[i]? = some v := q1
      rw [show its.toArray[i]? = some u by simpa using hu] at q1
      exact (Option.some.inj q1).symm
    subst ev
    refine ⟨_, rfl, wpAny_letOwnedTupleGo_enum (s := { s with heap := h', toks := tk + 1 }) ho fun h'' he' sb => ?_⟩
    have hT2 : h''.get? s.heap.objs.size = some { cls := .type "tuple", data := .seq #[.int i tk, v] } := (sb.2 _ (Nat.ne_of_gt hel)).trans hT
    have I1 : Inv X pins σ (upd H s.heap.objs.size (.tup [.int (i : Nat), x])) { s with heap := h'', toks := tk + 1 } :=
      I.turnedNew (ch := [e, it]) (fun b ob hb q => (sb.2 b (fun z => hb (by simp [z]))).trans (hk b ob (fun z => hb (by simp [z])) (fun z => hb (by simp [z])) q)) hf (Nat.le_refl _)
        ⟨by show 2 ≤ sizeLine; decide, [.int i tk, v], .cons ⟨_, rfl⟩ (.cons ru .nil), ⟨_, hT2, rfl, _, rfl⟩⟩
    refine ⟨.ref s.heap.objs.size, _, I1, rfl, ⟨_, x, rfl, I.hok.fresh (Nat.le_refl _), rfl, fun ys hy => by rw [Kd.inj I hy hq]; exact hx⟩, ⟨⟨v, ?_⟩, Kd.itk hs.1 fun o q => (sb.2 it (Ne.symm n3)).trans q⟩, fun b hb => ?_⟩
    · have e1 : ((i + 1 : Nat) : Int) = (i : Int) + 1 := by omega
      rw [e1]
      exact he'
    · have hb' : b < s.heap.objs.size := by
        rcases (show b = e ∨ b = it by simpa using hb) with rfl | rfl
        · exact hel
        · exact hil
      rw [upd_ne (Nat.ne_of_lt hb')]
      exact (hf b hb).1
  done := by
    intro X hP hw hK hc i pins s σ H E I hf st hg
    subst hP hw hK
    obtain ⟨⟨old, he⟩, hit⟩ := st
    obtain ⟨xs, hq, hl⟩ := hg
    obtain ⟨its, rv, p, _⟩ := Kd.of I hq
    have l1 : its.toArray.size = i := by
      have := rv.length
      simp
      omega
    subst l1
    refine wpAny_pyNext_enum_endD (Kd.draws (A := X.A.in1) (I.ok.hd hc) it a n1 its.toArray k) he ⟨hit, p⟩ fun h' eb => ⟨rfl, I.turnedL (t' := s.toks) (ch := [e, it]) (fun b o hb q => eb b o (fun z => hb (by simp [z])) q) hf⟩
  self := fun A i s Q E st h => by
    obtain ⟨⟨_, he⟩, _⟩ := st
    exact wpAny_pyIter_enum he h
def iEnumG (K : PySem.W.Frag) (ta : TA) : TI := fun σ H R => ta σ H fun vs H1 => ∃ a k xs, vs = [.ref a] ∧ Kd.sq K H1 a xs k ∧ R (IteG K k a) H1
theorem pi_enumG {X : Cx} {e : Expr} {ta : TA} {p pos tpos : Pos} {elts : List Expr} {kk : Nat} (hg : Gl X "enumerate") (hm : X.mg "enumerate" = none) (ha : PA X [e] ta) (hs : starEach [e] X.env = [(false, eval e X.env)] := by rfl) :
    PI X (.Tuple elts kk tpos) (.Call (.Name "enumerate" p) [e] [] pos) (iEnumG X.K ta) := by
  refine ⟨fun pins s σ H R I h => ?_⟩
  refine Call_ (ld_blt I hg hm boot_enumerate (PyProof.Rows.callWith_type1 (thn (ha.run pos pins s σ H _ I h) fun us s1 ⟨vs, H1, I1, r1, q1⟩ => ?_) hs rfl))
  obtain ⟨a, k, xs, ex, hq, q⟩ := q1
  subst ex
  cases r1 with
  | cons r rr =>
    cases rr
    cases r
    obtain ⟨its, rv, p', lt⟩ := Kd.of I1 hq
    refine call_enum1 (Kd.begins a its.toArray k) p' fun h' he hit hk => wpAny_pyIter_enum he ?_
    have I2 : Inv X pins σ H1 { s1 with heap := h' } := I1.kept (t' := s1.toks) hk
    refine ⟨s1.heap.objs.size + 1, [s1.heap.objs.size + 1, s1.heap.objs.size], _, _, H1, rfl, I2, turn_enumG (k := k) (a := a) (Nat.ne_of_lt lt) (Nat.ne_of_lt (Nat.lt_succ_of_lt lt)) (Nat.succ_ne_self _), ⟨⟨.none, he⟩, Kd.start hit⟩, fun b hb => ?_, q⟩
    have hle : s1.heap.objs.size ≤ b := by
      rcases (show b = s1.heap.objs.size + 1 ∨ b = s1.heap.objs.size by simpa using hb) with z | z
      · rw [z]
        exact Nat.le_succ _
      · rw [z]
        exact Nat.le_refl _
    exact I1.fpOk hle (I1.hok.fresh hle)
/-- a loop over enumerate of a sequence -/
theorem for_enumG {K : PySem.W.Frag} {k : Kd} {a : Addr} {xs : List V} {g : TG} {tb : TS} {D : Ends} {σ : L2.St} {H : Hp} (Pv : Nat → L2.St → Hp → Prop) (h0 : Pv 0 σ H) (hl : ∀ i σ H, Pv i σ H → k.sq K H a xs)
    (hs : ∀ (i : Nat) (x : V) (T : Addr) (σ : L2.St) (H : Hp), xs[i]? = some x → Pv i σ H → H T = none → g (.ref T) σ (upd H T (.tup [.int (i : Nat), x])) fun σ2 H2 => tb { D with nx := Pv (i + 1), ct := Pv (i + 1), bk := D.nx } σ2 H2) (hd : ∀ σ H, Pv xs.length σ H → D.nx σ H) :
    ∃ W : Nat → Nat → L2.St → Hp → Prop, (∃ m, W 0 m σ H) ∧ ∀ i m σ H, W i m σ H →
      ((IteG K k a).stop i H ∧ D.nx σ H) ∨ ((IteG K k a).go i H ∧ ∃ N : L2.St → Hp → Prop, (∀ σ' H', N σ' H' → ∃ m', m' < m ∧ W (i + 1) m' σ' H') ∧ ∀ v H', (IteG K k a).yld i H v H' → g v σ H' fun σ2 H2 => tb { D with nx := N, ct := N, bk := D.nx } σ2 H2) := by
  refine ⟨fun i m σ H => m = xs.length - i ∧ i ≤ xs.length ∧ Pv i σ H, ⟨_, rfl, Nat.zero_le _, h0⟩, ?_⟩
  rintro i m σ H ⟨rfl, hi, p⟩
  have q := hl i σ H p
  by_cases lt : i < xs.length
  · have hx : xs[i]? = some xs[i] := List.getElem?_eq_getElem lt
    refine .inr ⟨⟨xs, _, q, hx⟩, Pv (i + 1), fun σ' H' p' => ⟨xs.length - (i + 1), by omega, rfl, lt, p'⟩, fun v H' y => ?_⟩
    obtain ⟨T, x', rfl, hT, rfl, f⟩ := y
    exact hs i x' T σ H (f xs q) p hT
  · obtain rfl : i = xs.length := by omega
    exact .inl ⟨⟨xs, q, rfl⟩, hd σ H p⟩
end VG

set_option maxRecDepth 100000
/-! New objects in heaps without some objects; lists of one's own. -/
namespace VG
open PySem PySem.Spec PyProof.Rows L2
theorem Exs.put {S : List Addr} {H G : Hp} {D : Addr} {o : HO} (e : Exs S H G) (h : H D = none) : Exs S H (L2.upd G D o) := fun b u z => by
  by_cases y : b ∈ S
  · rw [wos_in y] at z
    cases z
  · rw [wos_out y] at z ⊢
    have n : b ≠ D := fun x => by
      rw [x, h] at z
      cases z
    rw [upd_ne n]
    exact e.on y z
theorem fresh_out {S : List Addr} {G : Hp} {T : Addr} (hS : ∀ b ∈ S, ∃ o, G b = some o) (hT : G T = none) : T ∉ S := fun z => by
  obtain ⟨o, ho⟩ := hS T z
  rw [hT] at ho
  cases ho
theorem Dp.tupN {K : PySem.W.Frag} {S : List Addr} {G : Hp} {T : Addr} {xs : List V} {ds : List PyData} (hT : G T = none) (hS : T ∉ S) (h : DpAll K (wos S G) xs ds) : Dp K (wos S (upd G T (.tup xs))) (.ref T) (.tuple ds) :=
  .tup (SqT.of (by rw [wos_out hS, upd_same])) (DpAll.same (Exs.of (same_upd hT)) _ _ h)
/-- a list of one's own, not in S -/
def Lp (K : PySem.W.Frag) (S : List Addr) (H : Hp) (v : V) (ds : List PyData) : Prop := ∃ a xs, v = .ref a ∧ a ∉ S ∧ H a = some (.lst xs) ∧ DpAll K (wos S H) xs ds
theorem Lp.dp {K : PySem.W.Frag} {S : List Addr} {H : Hp} {v : V} {ds : List PyData} (h : Lp K S H v ds) : Dp K (wos S H) v (.list ds) := by
  obtain ⟨a, xs, rfl, n, e, d⟩ := h
  exact .lst (SqL.of (by rw [wos_out n]; exact e)) d
theorem Lp.on {K : PySem.W.Frag} {S : List Addr} {H H' : Hp} {v : V} {ds : List PyData} (h : Lp K S H v ds) (e : Exs S H H') : Lp K S H' v ds := by
  obtain ⟨a, xs, rfl, n, z, d⟩ := h
  exact ⟨a, xs, rfl, n, e.on n z, DpAll.same e _ _ d⟩
theorem Lp.new {K : PySem.W.Frag} {S : List Addr} {H : Hp} {L : Addr} {xs : List V} {ds : List PyData} (hL : H L = none) (hS : L ∉ S) (d : DpAll K (wos S H) xs ds) : Lp K S (upd H L (.lst xs)) (.ref L) ds :=
  ⟨L, xs, rfl, hS, upd_same, DpAll.same (Exs.of (same_upd hL)) _ _ d⟩
theorem Acc.lp {K : PySem.W.Frag} {S : List Addr} {D : Addr} {H : Hp} {ds : List PyData} (c : Acc K S D H ds) (h : D ∉ S) : Lp K S H (.ref D) ds := by
  obtain ⟨acc, h1, h2⟩ := c.ex
  exact ⟨D, acc, rfl, h, h1, DpAll.same (wos_less fun b z => List.mem_cons_of_mem _ z) _ _ h2⟩
theorem Acc.len {K : PySem.W.Frag} {S : List Addr} {D : Addr} {H : Hp} {ds : List PyData} (c : Acc K S D H ds) : ∃ acc, H D = some (.lst acc) ∧ acc.length = ds.length := by
  obtain ⟨acc, h1, h2⟩ := c.ex
  exact ⟨acc, h1, DpAll.len h2⟩
theorem dpAll_cons {K : PySem.W.Frag} {H : Hp} {xs : List V} {d : PyData} {ds : List PyData} (h : DpAll K H xs (d :: ds)) : ∃ x r, xs = x :: r ∧ Dp K H x d ∧ DpAll K H r ds := by
  cases h with
  | cons a t => exact ⟨_, _, rfl, a, t⟩
theorem at0 {α : Type} (x : α) (r : List α) : atI (x :: r) 0 = some x := atI_nat (xs := x :: r) (j := 0) rfl
/-- one of the data -/
theorem dpAll_get {K : PySem.W.Frag} {H : Hp} : ∀ {xs : List V} {ds : List PyData} {i : Nat} {d : PyData}, DpAll K H xs ds → ds[i]? = some d → ∃ x, xs[i]? = some x ∧ Dp K H x d
  | _, _, 0, _, .cons h _, e => by
    cases e
    exact ⟨_, rfl, h⟩
  | _, _, i + 1, _, .cons _ t, e => dpAll_get (i := i) t e
/-- a list that grows, of data without lists, while all but S' stays -/
theorem Acc.putX {K : PySem.W.Frag} {S S' : List Addr} {D : Addr} {H G : Hp} {ds : List PyData} {d : PyData} {y : V} (c : Acc K S D H ds) (e : Exs S' H G) (s : ∀ b ∈ S', b ∈ S) (hD : D ∉ S') (hS : ∀ b ∈ S, ∃ ys, G b = some (.lst ys)) (n : noL d = true) (hy : Dp K G y d) :
    ∃ acc, G D = some (.lst acc) ∧ acc.length = ds.length ∧ Acc K S D (upd G D (.lst (acc ++ [y]))) (ds ++ [d]) := by
  have c2 := c.on (Exs.mono (fun b h => List.mem_cons_of_mem _ (s b h)) e) fun o h => e.on hD h
  obtain ⟨acc, h1, _⟩ := c2.ex
  exact c2.more (Dp.wosT (fun b hb => by
    rcases List.mem_cons.mp hb with rfl | hb
    · exact ⟨_, h1⟩
    · exact hS b hb) d y n hy)
/-- and with data that are there without D and S -/
theorem Acc.moreX {K : PySem.W.Frag} {S S' : List Addr} {D : Addr} {H G : Hp} {ds : List PyData} {d : PyData} {y : V} (c : Acc K S D H ds) (e : Exs S' H G) (s : ∀ b ∈ S', b ∈ S) (hD : D ∉ S') (hy : Dp K (wos (D :: S) G) y d) :
    ∃ acc, G D = some (.lst acc) ∧ acc.length = ds.length ∧ Acc K S D (upd G D (.lst (acc ++ [y]))) (ds ++ [d]) :=
  (c.on (Exs.mono (fun b h => List.mem_cons_of_mem _ (s b h)) e) fun o h => e.on hD h).more hy
/-! ### how deep data are (for == of data) -/
def Lay (k : Nat) (d : PyData) : Prop := d.canLay0 = true ∧ d.depth ≤ k
theorem lay_all {k : Nat} : ∀ {ds : List PyData}, (∀ d ∈ ds, Lay k d) → PyData.canLayAll0 ds = true ∧ PyData.depthAll ds ≤ k
  | [], _ => ⟨rfl, Nat.zero_le _⟩
  | d :: ds, h => by
    obtain ⟨a, b⟩ := lay_all (ds := ds) fun e he => h e (List.mem_cons_of_mem _ he)
    obtain ⟨c, e⟩ := h d List.mem_cons_self
    refine ⟨by simp only [PyData.canLayAll0, a, c, Bool.and_self], ?_⟩
    simp only [PyData.depthAll]
    exact Nat.max_le.mpr ⟨e, b⟩
theorem lay_list {k : Nat} {ds : List PyData} (h : ∀ d ∈ ds, Lay k d) : Lay (k + 1) (.list ds) := by
  obtain ⟨a, b⟩ := lay_all h
  refine ⟨by simp only [PyData.canLay0, a], ?_⟩
  simp only [PyData.depth]
  omega
theorem lay_tup {k : Nat} {ds : List PyData} (h : ∀ d ∈ ds, Lay k d) : Lay (k + 1) (.tuple ds) := by
  obtain ⟨a, b⟩ := lay_all h
  refine ⟨by simp only [PyData.canLay0, a], ?_⟩
  simp only [PyData.depth]
  omega
theorem lay_int (i : Int) : Lay 0 (.int i) := ⟨by simp only [PyData.canLay0], by simp [PyData.depth]⟩
theorem lay_bool (i : Bool) : Lay 0 (.bool i) := ⟨by simp only [PyData.canLay0], by simp [PyData.depth]⟩
theorem Lay.up {k m : Nat} {d : PyData} (h : Lay k d) (e : k ≤ m) : Lay m d := ⟨h.1, Nat.le_trans h.2 e⟩
theorem Lay.shaped {k : Nat} {d : PyData} (h : Lay k d) (e : k ≤ 64 := by decide) : SeqAt.shaped d = true := by
  show (PyData.canLay0 d && decide (PyData.depth d ≤ 64)) = true
  rw [h.1, decide_eq_true (Nat.le_trans h.2 e)]
  rfl
theorem eqv_nil : ∀ ds : List PyData, PyData.eqv (.list ds) (.list []) = ds.isEmpty
  | [] => by simp [PyData.eqv, PyData.eqvAll]
  | _ :: _ => by simp [PyData.eqv, PyData.eqvAll]
end VG

set_option maxRecDepth 100000
/-! len and bool of an instance by own methods; data small enough to be shown, told by lists. -/
namespace VG
open PySem PySem.Spec PyProof.Rows L2
section
variable {X : Cx} {CX : CXT} {C g : Addr} {n : Nat} {sp : Sp} {E : XK}
/-- len(x), x an instance of C, whose __len__ stands at g -/
def rLenO (C : Addr) (sp : Sp) (E : XK) : List V → Hp → VK → Prop := fun xs H Q => ∃ a dx fs, xs = [.ref a] ∧ H a = some (.ins C dx fs) ∧ sp xs H (fun v H' => (∃ m : Nat, v = .int m ∧ m < 2 ^ 62) ∧ Q v H') E
theorem call_lenO (hs : PySem.W.findIn X.K (.ref C) "__len__" = some (some (.ref g))) (hf : PySem.W.isFn X.K (.ref g) = true) (F : FnR X.prog X.w X.K X.mg X.base CX n g sp) (hr : Room (n + 1) X.A) (hx : Passes CX X E) : CallR X (.builtin "len") (rLenO C sp E) := by
  intro pins s σ H xs us Q I r h
  obtain ⟨a, dx, fs, rfl, ha, q⟩ := h
  obtain ⟨u, rfl, ru⟩ := vals1 r
  cases (show u = Value.ref a from ru)
  obtain ⟨od, J⟩ := ins_inst I ha
  obtain ⟨m, hF⟩ := I.fr
  have hr1 : Room n X.A.in1 := Room.in1 hr
  refine PySem.W.len_K hF I.ok.mod.kin J hs hf (wpAny_mono (wpAny_call (SlX.run_at (us := [.ref a]) (ws := [.ref a]) F hr1 I.env0.in1 hx I (.cons rfl .nil) q)) (fun v s' z => ?_) fun _ _ x => x)
  obtain ⟨z', H', I', rz, ⟨y, rfl, hy⟩, qz⟩ := z
  obtain ⟨t, e⟩ := (show ∃ t, v = Value.int y t from rz)
  cases e
  exact ⟨⟨by omega, by omega⟩, .int y, H', I'.tok _, ⟨_, rfl⟩, qz⟩
/-- bool(x) of an object: its truth -/
theorem meets_boolO {P : Program} {w : World} {a : Addr} : PySem.MeetsIn P w (Builtin.«bool.__new__» ⟨[.type "bool", .ref a], []⟩) (fun A R s => wpAny (model P w) A.in1 (truthy (.ref a)) (fun b s' => R (.ok (.ret (.bool b))) s') (fun e s' => R (.error e) s') s) := by
  refine PySem.MeetsIn.of_wp fun A R s h => ?_
  obtain ⟨hp, g, d, tk, os⟩ := s
  have f1 := F.conv_sub_bool
  have q : ∀ {Q : Bool → Shared → Prop}, (∀ b s', R (.ok (.ret (.bool b))) s' → Q b s') → wpAny (model P w) A.in1 (truthy (.ref a)) Q (fun e s' => R (.error e) s') ⟨hp, g, d, tk, os⟩ := fun k => wpAny_mono h k fun _ _ x => x
  repeat (any_goals (first | assumption | (with_reducible apply q; intro b s' z) | wp_step))
  all_goals first | exact ⟨_, rfl, z⟩ | skip
/-- bool(x), x an instance of C, whose __bool__ stands at g -/
def rBoolO (C : Addr) (sp : Sp) (E : XK) : List V → Hp → VK → Prop := fun xs H Q => ∃ a dx fs, xs = [.ref a] ∧ H a = some (.ins C dx fs) ∧ sp xs H (fun v H' => (∃ b, v = .bl b) ∧ Q v H') E
theorem call_boolO (hs : PySem.W.findIn X.K (.ref C) "__bool__" = some (some (.ref g))) (hf : PySem.W.isFn X.K (.ref g) = true) (G : FnR X.prog X.w X.K X.mg X.base CX n g sp) (hr : Room (n + 2) X.A) (hx : Passes CX X E) : CallR X (.type "bool") (rBoolO C sp E) := by
  intro pins s σ H xs us Q I r h
  obtain ⟨a, dx, fs, rfl, ha, q⟩ := h
  obtain ⟨u, rfl, ru⟩ := vals1 r
  cases (show u = Value.ref a from ru)
  obtain ⟨od, J⟩ := ins_inst I ha
  obtain ⟨m, hF⟩ := I.fr
  have hr2 : Room n X.A.in1.in1 := Room.in1 (Room.in1 hr)
  refine callType_newIn F.called_bool F.newNe_bool (F.typeCall_bool_1 _) (F.newCall_bool_1 _) (fun obj => F.args_object_init_2 obj _) F.entry_bool_new meets_boolO ?_
  refine PySem.W.truthy_K hF I.ok.mod.kin J hs hf (wpAny_mono (wpAny_call (SlX.run_at (us := [.ref a]) (ws := [.ref a]) G hr2 I.env0.in1.in1 hx I (.cons rfl .nil) q)) (fun v s' z => ?_) fun _ _ x => x)
  obtain ⟨z', H', I', rz, ⟨y, rfl⟩, qz⟩ := z
  cases (show v = Value.bool y from rz)
  exact ⟨rfl, .bl y, H', I', rfl, qz⟩
end
/-- tuple(x), its reading named (for comprehensions) -/
def rTupOf (K : PySem.W.Frag) : List V → Hp → VK → Prop := fun xs H Q => ∃ p ys, xs = [V.ref p] ∧ ((SqL K H p ys ∧ ∀ l, H l = none → Q (.ref l) (upd H l (.tup ys))) ∨ (SqT K H p ys ∧ Q (.ref p) H))
theorem call_tupleK {X : Cx} : CallR X (.type "tuple") (rTupOf X.K) := call_tuple_of
/-! ### small data, told by lists -/
structure Smk (k m : Nat) (d : PyData) : Prop where
  sm : VG.sm d = true
  dp : d.depth ≤ k
  bk : d.bulk ≤ m
theorem smk_int {i : Int} (h : i.natAbs < 10 ^ 90) : Smk 0 0 (.int i) := ⟨by simp only [VG.sm]; exact decide_eq_true h, by simp [PyData.depth], by simp [PyData.bulk]⟩
theorem smk_bool (b : Bool) : Smk 0 0 (.bool b) := ⟨rfl, by simp [PyData.depth], by simp [PyData.bulk]⟩
theorem smk_str {z : Str} {m : Nat} (h : PyData.strOk z = true) (hm : z.cps.size ≤ m) : Smk 0 m (.str z) := ⟨by simp only [VG.sm]; exact h, by simp [PyData.depth], by simp only [PyData.bulk]; exact hm⟩
theorem Smk.up {k m k' m' : Nat} {d : PyData} (h : Smk k m d) (e : k ≤ k') (f : m ≤ m') : Smk k' m' d := ⟨h.sm, Nat.le_trans h.dp e, Nat.le_trans h.bk f⟩
theorem smk_all {k m : Nat} : ∀ {ds : List PyData}, (∀ d ∈ ds, Smk k m d) → smAll ds = true ∧ PyData.depthAll ds ≤ k ∧ PyData.bulkAll ds ≤ ds.length * (m + 1)
  | [], _ => ⟨rfl, Nat.zero_le _, Nat.zero_le _⟩
  | d :: ds, h => by
    obtain ⟨a, b, c⟩ := smk_all (ds := ds) fun e he => h e (List.mem_cons_of_mem _ he)
    have z := h d List.mem_cons_self
    refine ⟨?_, ?_, ?_⟩
    · simp only [VG.smAll, z.sm, a, Bool.and_self]
    · simp only [PyData.depthAll]
      exact Nat.max_le.mpr ⟨z.dp, b⟩
    · simp only [PyData.bulkAll, List.length_cons, Nat.succ_mul]
      have := z.bk
      omega
theorem smk_list {k m n : Nat} {ds : List PyData} (h : ∀ d ∈ ds, Smk k m d) (hn : ds.length ≤ n) : Smk (k + 1) (n * (m + 1)) (.list ds) := by
  obtain ⟨a, b, c⟩ := smk_all h
  refine ⟨by simp only [VG.sm]; exact a, by simp only [PyData.depth]; omega, ?_⟩
  simp only [PyData.bulk]
  exact Nat.le_trans c (Nat.mul_le_mul_right _ hn)
theorem smk_tup {k m n : Nat} {ds : List PyData} (h : ∀ d ∈ ds, Smk k m d) (hn : ds.length ≤ n) : Smk (k + 1) (n * (m + 1)) (.tuple ds) := by
  obtain ⟨a, b, c⟩ := smk_all h
  refine ⟨by simp only [VG.sm]; exact a, by simp only [PyData.depth]; omega, ?_⟩
  simp only [PyData.bulk]
  exact Nat.le_trans c (Nat.mul_le_mul_right _ hn)
theorem Smk.Sm {k m : Nat} {d : PyData} (h : Smk k m d) (e : k ≤ 40 := by decide) (f : m ≤ 100000 := by decide) : VG.Sm d := ⟨h.sm, Nat.le_trans h.dp e, Nat.le_trans h.bk f⟩
/-! ### == of data -/
mutual
def noDict : PyData → Bool
  | .dict _ => false
  | .list ds => noDicts ds
  | .tuple ds => noDicts ds
  | _ => true
def noDicts : List PyData → Bool
  | [] => true
  | d :: ds => noDict d && noDicts ds
end
theorem noDicts_of {ds : List PyData} (h : ∀ d ∈ ds, noDict d = true) : noDicts ds = true := by
  induction ds with
  | nil => rfl
  | cons d ds ih =>
    show (noDict d && noDicts ds) = true
    rw [h d List.mem_cons_self, ih fun e he => h e (List.mem_cons_of_mem _ he)]
    rfl
mutual
theorem eqv_refl : ∀ d : PyData, noDict d = true → PyData.eqv d d = true
  | .none, _ => by simp only [PyData.eqv]
  | .bool _, _ => by simp only [PyData.eqv, beq_self_eq_true]
  | .int _, _ => by simp only [PyData.eqv, beq_self_eq_true]
  | .str _, _ => by simp only [PyData.eqv, beq_self_eq_true]
  | .list xs, h => by simp only [PyData.eqv]; exact eqv_reflAll xs h
  | .tuple xs, h => by simp only [PyData.eqv]; exact eqv_reflAll xs h
  | .dict _, h => by cases h
theorem eqv_reflAll : ∀ ds : List PyData, noDicts ds = true → PyData.eqvAll ds ds = true
  | [], _ => by simp only [PyData.eqvAll]
  | d :: ds, h => by
    obtain ⟨a, b⟩ := Bool.and_eq_true_iff.mp (show (noDict d && noDicts ds) = true from h)
    simp only [PyData.eqvAll, eqv_refl d a, eqv_reflAll ds b, Bool.and_self]
end
theorem eqv_len : ∀ {xs ys : List PyData}, xs.length ≠ ys.length → PyData.eqvAll xs ys = false
  | [], [], h => absurd rfl h
  | [], _ :: _, _ => by simp only [PyData.eqvAll]
  | _ :: _, [], _ => by simp only [PyData.eqvAll]
  | x :: xs, y :: ys, h => by
    have z := eqv_len (xs := xs) (ys := ys) fun e => h (by rw [List.length_cons, List.length_cons, e])
    simp only [PyData.eqvAll, z, Bool.and_false]
theorem eqv_lens {xs ys : List PyData} (h : xs.length ≠ ys.length) : PyData.eqv (.list xs) (.list ys) = false := by
  simp only [PyData.eqv]
  exact eqv_len h
end VG

set_option maxRecDepth 100000
set_option linter.unusedVariables false
set_option maxHeartbeats 4000000
namespace Lw
open PySem PySem.Spec PyProof.Rows L2 VG
/-- of each error: its name, its fields, what the law tells of them -/
def infos (d1 d2 d3 : PyData) : List (Str × List (Str × PyData) × List PyData) := [("InvalidRatio", after (slots 1 ["given"]) [d1] [], [d1]),
  ("InvalidNumber", after (slots 1 ["given"]) [d1] [], [d1]),
  ("InvalidName", after (slots 1 ["given"]) [d1] [], [d1]),
  ("DuplicateName", after (slots 1 ["name"]) [d1] [], [d1]),
  ("InvalidRow", after (slots 1 ["at"]) [d1] [], [d1]),
  ("InvalidLayer", after (slots 1 ["given"]) [d1] [], [d1]),
  ("InvalidTable", after (slots 1 ["layer"]) [d1] [], [d1]),
  ("InvalidWay", after (slots 1 ["layer", "start", "goal"]) [d1, d2, d3] [], [d1, d2, d3]),
  ("InvalidPlace", after (slots 1 ["given"]) [d1] [], [d1]),
  ("InvalidPoint", after (slots 1 ["given"]) [d1] [], [d1]),
  ("InvalidForm", after (slots 1 ["given"]) [d1] [], [d1]),
  ("InvalidStep", after (slots 1 ["path"]) [d1] [], [d1]),
  ("UnlikeEnds", after (slots 1 ["path"]) [d1] [], [d1]),
  ("InvalidText", after (slots 1 ["word"]) [d1] [], [d1]),
  ("InvalidFact", after (slots 1 ["at"]) [d1] [], [d1]),
  ("UnlikeScripts", after (slots 1 []) [] [], []),
  ("UnlikeWorlds", after (slots 1 []) [] [], []),
  ("HasTests", after (slots 1 []) [] [], []),
  ("NoWorld", after (slots 1 []) [] [], []),
  ("InvalidCommand", after (slots 1 ["at"]) [d1] [], [d1]),
  ("InvalidLimit", after (slots 1 ["given"]) [d1] [], [d1]),
  ("Full", after (slots 1 ["limit"]) [d1] [], [d1]),
  ("InvalidPage", after (slots 1 ["line"]) [d1] [], [d1]),
  ("TooMany", after (slots 1 ["subject", "most"]) [d1, d2] [], [d1, d2]),
  ("UnknownName", after (slots 1 ["name"]) [d1] [], [d1]),
  ("UnknownScript", after (slots 1 ["word"]) [d1] [], [d1]),
  ("NothingLeft", after (slots 1 []) [] [], [])]
abbrev bareN : List Str := ["UnlikeScripts", "UnlikeWorlds", "HasTests", "NoWorld", "NothingLeft"]
theorem bare_is : EN.map (fun nm => inV (.str nm) (bareN.map V.str)) = [false, false, false, false, false, false, false, false, false, false, false, false, false, false, false, true, true, true, true, false, false, false, false, false, false, false, true] := by decide +kernel
theorem flds_is : EN.map VG.fieldsOf = ([["given"], ["given"], ["given"], ["name"], ["at"], ["given"], ["layer"], ["layer", "start", "goal"], ["given"], ["given"], ["given"], ["path"], ["path"], ["word"], ["at"], [], [], [], [], ["at"], ["given"], ["limit"], ["line"], ["subject", "most"], ["name"], ["word"], []] : List (List Str)) := by decide +kernel
theorem infos_names (d1 d2 d3 : PyData) : (infos d1 d2 d3).map (·.1) = EN := rfl
/-- the law's first list of what is due -/
def dueA (d1 : PyData) : List PyData := EN.map fun nm => if inV (.str nm) (bareN.map V.str) = true then .tuple [] else .tuple [d1]
theorem due_is (d1 d2 d3 : PyData) : ((dueA d1).set 7 (.tuple [d1, d2, d3])).set 23 (.tuple [d1, d2]) = (infos d1 d2 d3).map fun e => .tuple e.2.2 := by
  have e : dueA d1 = (EN.map fun nm => inV (.str nm) (bareN.map V.str)).map fun b => if b = true then PyData.tuple [] else .tuple [d1] := by
    rw [List.map_map]
    rfl
  rw [e, bare_is]
  rfl
theorem infos_get (d1 d2 d3 : PyData) {i : Nat} {e : Str × List (Str × PyData) × List PyData} (h : (infos d1 d2 d3)[i]? = some e) : (VG.fieldsOf e.1).map (fun f => ((("code", PyData.str e.1) :: e.2.1 : List (Str × PyData))).lookup f) = e.2.2.map some := by
  have hn : EN[i]? = some e.1 := by
    rw [← infos_names d1 d2 d3, List.getElem?_map, h]
    rfl
  have hf : (EN.map VG.fieldsOf)[i]? = some (VG.fieldsOf e.1) := by
    rw [List.getElem?_map, hn]
    rfl
  rw [flds_is] at hf
  match i, h, hf with
  | 0, h, hf =>
    cases h
    rw [← Option.some.inj hf]
    rfl
  | 1, h, hf =>
    cases h
    rw [← Option.some.inj hf]
    rfl
  | 2, h, hf =>
    cases h
    rw [← Option.some.inj hf]
    rfl
  | 3, h, hf =>
    cases h
    rw [← Option.some.inj hf]
    rfl
  | 4, h, hf =>
    cases h
    rw [← Option.some.inj hf]
    rfl
  | 5, h, hf =>
    cases h
    rw [← Option.some.inj hf]
    rfl
  | 6, h, hf =>
    cases h
    rw [← Option.some.inj hf]
    rfl
  | 7, h, hf =>
    cases h
    rw [← Option.some.inj hf]
    rfl
  | 8, h, hf =>
    cases h
    rw [← Option.some.inj hf]
    rfl
  | 9, h, hf =>
    cases h
    rw [← Option.some.inj hf]
    rfl
  | 10, h, hf =>
    cases h
    rw [← Option.some.inj hf]
    rfl
  | 11, h, hf =>
    cases h
    rw [← Option.some.inj hf]
    rfl
  | 12, h, hf =>
    cases h
    rw [← Option.some.inj hf]
    rfl
  | 13, h, hf =>
    cases h
    rw [← Option.some.inj hf]
    rfl
  | 14, h, hf =>
    cases h
    rw [← Option.some.inj hf]
    rfl
  | 15, h, hf =>
    cases h
    rw [← Option.some.inj hf]
    rfl
  | 16, h, hf =>
    cases h
    rw [← Option.some.inj hf]
    rfl
  | 17, h, hf =>
    cases h
    rw [← Option.some.inj hf]
    rfl
  | 18, h, hf =>
    cases h
    rw [← Option.some.inj hf]
    rfl
  | 19, h, hf =>
    cases h
    rw [← Option.some.inj hf]
    rfl
  | 20, h, hf =>
    cases h
    rw [← Option.some.inj hf]
    rfl
  | 21, h, hf =>
    cases h
    rw [← Option.some.inj hf]
    rfl
  | 22, h, hf =>
    cases h
    rw [← Option.some.inj hf]
    rfl
  | 23, h, hf =>
    cases h
    rw [← Option.some.inj hf]
    rfl
  | 24, h, hf =>
    cases h
    rw [← Option.some.inj hf]
    rfl
  | 25, h, hf =>
    cases h
    rw [← Option.some.inj hf]
    rfl
  | 26, h, hf =>
    cases h
    rw [← Option.some.inj hf]
    rfl
  | i + 27, h, hf => cases h
theorem lookups {K : PySem.W.Frag} {H : Hp} {fs : List (Str × V)} {FL : List (Str × PyData)} (h : FlOk K H fs FL) : ∀ {ns : List Str} {ds : List PyData}, ns.map (fun f => FL.lookup f) = ds.map some → ∃ ys, ns.map (fun f => fs.lookup f) = ys.map some ∧ DpAll K H ys ds
  | [], [], _ => ⟨[], rfl, .nil⟩
  | n :: ns, d :: ds, e => by
    have e := List.cons.inj e
    obtain ⟨v, l, hd⟩ := h.get e.1
    obtain ⟨ys, e2, hs⟩ := lookups h (ns := ns) (ds := ds) e.2
    exact ⟨v :: ys, by show fs.lookup n :: ns.map (fun f => fs.lookup f) = _; rw [l, e2]; rfl, .cons hd hs⟩
/-- the errors of a list -/
abbrev ErrAt (K : PySem.W.Frag) (g : Str → Addr) (H : Hp) (v : V) (e : Str × List (Str × PyData) × List PyData) : Prop := ∃ a fs, v = .ref a ∧ XoAt H a (g e.1) fs ∧ FlOk K H fs (("code", .str e.1) :: e.2.1)
theorem ErrAt.same {K : PySem.W.Frag} {g : Str → Addr} {H H' : Hp} {v : V} {e : Str × List (Str × PyData) × List PyData} (s : Same H H') (h : ErrAt K g H v e) : ErrAt K g H' v e := by
  obtain ⟨a, fs, h1, h2, h3⟩ := h
  exact ⟨a, fs, h1, h2.same s, h3.same s⟩
abbrev Errs (K : PySem.W.Frag) (g : Str → Addr) (H : Hp) (xs : List V) (es : List (Str × List (Str × PyData) × List PyData)) : Prop := Paired (ErrAt K g H) xs es
theorem Errs.same {K : PySem.W.Frag} {g : Str → Addr} {H H' : Hp} {xs : List V} {es : List (Str × List (Str × PyData) × List PyData)} (s : Same H H') (h : Errs K g H xs es) : Errs K g H' xs es := L2.Paired.mapP h fun _ _ z => ErrAt.same s z
theorem dpAll_set {K : PySem.W.Frag} {H : Hp} {v : V} {d : PyData} (h : Dp K H v d) : ∀ {vs : List V} {ds : List PyData} (i : Nat), DpAll K H vs ds → DpAll K H (vs.set i v) (ds.set i d)
  | _, _, _, .nil => .nil
  | _, _, 0, .cons _ t => .cons h t
  | _, _, i + 1, .cons a t => .cons a (dpAll_set h i t)
/-- what is drawn -/
structure Odd1 (d : PyData) : Prop where
  s : Smk 1 6 d
  f : fit 2 d = true
theorem odd_non : Odd1 .none := ⟨(smk_tup (k := 0) (m := 0) (n := 0) (ds := []) (fun d hd => nomatch hd) (Nat.le_refl 0) |> fun _ => ⟨rfl, by simp [PyData.depth], by simp [PyData.bulk]⟩), rfl⟩
theorem odd_int {i : Int} (h : i.natAbs < 10 ^ 90) : Odd1 (.int i) := ⟨(smk_int h).up (by decide) (by decide), rfl⟩
theorem odd_bool (b : Bool) : Odd1 (.bool b) := ⟨(smk_bool b).up (by decide) (by decide), rfl⟩
theorem odd_str {z : Str} (h : PyData.strOk z = true) (hm : z.cps.size ≤ 1) : Odd1 (.str z) := ⟨(smk_str h hm).up (by decide) (by decide), rfl⟩
theorem smk_two {x y : PyData} (hx : Smk 0 1 x) (hy : Smk 0 1 y) : ∀ d ∈ [x, y], Smk 0 1 d := fun d hd => by
  rcases List.mem_cons.mp hd with rfl | hd
  · exact hx
  · rw [List.mem_singleton.mp hd]
    exact hy
theorem odd_tup : Odd1 (.tuple [.str "b", .int 1]) := ⟨(smk_tup (n := 2) (smk_two (smk_str (by decide +kernel) (by decide +kernel)) ((smk_int (by decide)).up (by decide) (by decide))) (Nat.le_refl 2)).up (Nat.le_refl 1) (by decide), rfl⟩
theorem odd_lst : Odd1 (.list [.int 1, .str "c"]) := ⟨(smk_list (n := 2) (smk_two ((smk_int (by decide)).up (by decide) (by decide)) (smk_str (by decide +kernel) (by decide +kernel))) (Nat.le_refl 2)).up (Nat.le_refl 1) (by decide), rfl⟩
theorem odd_nil : Odd1 (.tuple []) := ⟨(smk_tup (k := 0) (m := 0) (n := 0) (ds := []) (fun d hd => nomatch hd) (Nat.le_refl 0)).up (Nat.le_refl 1) (by decide), rfl⟩
theorem due_sm {d1 d2 d3 : PyData} (h1 : Odd1 d1) (h2 : Odd1 d2) (h3 : Odd1 d3) : Sm (.list ((infos d1 d2 d3).map fun e => .tuple e.2.2)) := by
  refine (smk_list (k := 2) (m := 21) (n := 27) (ds := (infos d1 d2 d3).map fun e => .tuple e.2.2) (fun d hd => ?_) (Nat.le_refl 27)).Sm
  obtain ⟨e, he, rfl⟩ := List.mem_map.mp hd
  have key : e.2.2.length ≤ 3 ∧ ∀ d ∈ e.2.2, Smk 1 6 d := by
    have all : ∀ e ∈ infos d1 d2 d3, e.2.2 = [] ∨ e.2.2 = [d1] ∨ e.2.2 = [d1, d2] ∨ e.2.2 = [d1, d2, d3] := by
      intro e he
      unfold infos at he
      repeat (rcases List.mem_cons.mp he with rfl | he <;> first | exact .inl rfl | exact .inr (.inl rfl) | exact .inr (.inr (.inl rfl)) | exact .inr (.inr (.inr rfl)) | skip)
      cases he
    rcases all e he with z | z | z | z <;> rw [z]
    · exact ⟨by decide, fun d hd => nomatch hd⟩
    · exact ⟨by show 1 ≤ 3; decide, fun d hd => by rw [List.mem_singleton.mp hd]; exact h1.s⟩
    · refine ⟨by show 2 ≤ 3; decide, fun d hd => ?_⟩
      rcases List.mem_cons.mp hd with rfl | hd
      · exact h1.s
      · rw [List.mem_singleton.mp hd]
        exact h2.s
    · refine ⟨by show 3 ≤ 3; decide, fun d hd => ?_⟩
      rcases List.mem_cons.mp hd with rfl | hd
      · exact h1.s
      · rcases List.mem_cons.mp hd with rfl | hd
        · exact h2.s
        · rw [List.mem_singleton.mp hd]
          exact h3.s
  exact smk_tup (n := 3) key.2 key.1
abbrev codesD : PyData := .list (EN.map PyData.str)
theorem codes_sm : Sm codesD := by
  refine (smk_list (k := 0) (m := 20) (n := 27) (ds := EN.map PyData.str) (fun d hd => ?_) (Nat.le_refl 27)).Sm
  obtain ⟨z, hz, rfl⟩ := List.mem_map.mp hd
  have all : ∀ z ∈ EN, (PyData.strOk z && decide (z.cps.size ≤ 20)) = true := by decide +kernel
  obtain ⟨h1, h2⟩ := Bool.and_eq_true_iff.mp (all z hz)
  exact smk_str h1 (of_decide_eq_true h2)
abbrev rowA (i : Nat) : List V := [V.bl (decide (i = 0)), V.bl (decide (i = 1)), V.bl (decide (i = 2)), V.bl (decide (i = 3)), V.bl (decide (i = 4)), V.bl (decide (i = 5)), V.bl (decide (i = 6)), V.bl (decide (i = 7)), V.bl (decide (i = 8)), V.bl (decide (i = 9)), V.bl (decide (i = 10)), V.bl (decide (i = 11)), V.bl (decide (i = 12))]
abbrev rowB (i : Nat) : List V := [V.bl (decide (i = 13)), V.bl (decide (i = 14)), V.bl (decide (i = 15)), V.bl (decide (i = 16)), V.bl (decide (i = 17)), V.bl (decide (i = 18)), V.bl (decide (i = 19)), V.bl (decide (i = 20)), V.bl (decide (i = 21)), V.bl (decide (i = 22)), V.bl (decide (i = 23)), V.bl (decide (i = 24)), V.bl (decide (i = 25)), V.bl (decide (i = 26))]
theorem row_dp {K : PySem.W.Frag} {H : Hp} {i : Nat} : DpAll K H (rowA i ++ rowB i) [.bool (decide (i = 0)), .bool (decide (i = 1)), .bool (decide (i = 2)), .bool (decide (i = 3)), .bool (decide (i = 4)), .bool (decide (i = 5)), .bool (decide (i = 6)), .bool (decide (i = 7)), .bool (decide (i = 8)), .bool (decide (i = 9)), .bool (decide (i = 10)), .bool (decide (i = 11)), .bool (decide (i = 12)), .bool (decide (i = 13)), .bool (decide (i = 14)), .bool (decide (i = 15)), .bool (decide (i = 16)), .bool (decide (i = 17)), .bool (decide (i = 18)), .bool (decide (i = 19)), .bool (decide (i = 20)), .bool (decide (i = 21)), .bool (decide (i = 22)), .bool (decide (i = 23)), .bool (decide (i = 24)), .bool (decide (i = 25)), .bool (decide (i = 26))] := (.cons (.bl _) (.cons (.bl _) (.cons (.bl _) (.cons (.bl _) (.cons (.bl _) (.cons (.bl _) (.cons (.bl _) (.cons (.bl _) (.cons (.bl _) (.cons (.bl _) (.cons (.bl _) (.cons (.bl _) (.cons (.bl _) (.cons (.bl _) (.cons (.bl _) (.cons (.bl _) (.cons (.bl _) (.cons (.bl _) (.cons (.bl _) (.cons (.bl _) (.cons (.bl _) (.cons (.bl _) (.cons (.bl _) (.cons (.bl _) (.cons (.bl _) (.cons (.bl _) (.cons (.bl _) .nil)))))))))))))))))))))))))))
theorem row_eq (i : Nat) : [.bool (decide (i = 0)), .bool (decide (i = 1)), .bool (decide (i = 2)), .bool (decide (i = 3)), .bool (decide (i = 4)), .bool (decide (i = 5)), .bool (decide (i = 6)), .bool (decide (i = 7)), .bool (decide (i = 8)), .bool (decide (i = 9)), .bool (decide (i = 10)), .bool (decide (i = 11)), .bool (decide (i = 12)), .bool (decide (i = 13)), .bool (decide (i = 14)), .bool (decide (i = 15)), .bool (decide (i = 16)), .bool (decide (i = 17)), .bool (decide (i = 18)), .bool (decide (i = 19)), .bool (decide (i = 20)), .bool (decide (i = 21)), .bool (decide (i = 22)), .bool (decide (i = 23)), .bool (decide (i = 24)), .bool (decide (i = 25)), .bool (decide (i = 26))] = (List.range 27).map fun j => PyData.bool (decide (i = j)) := rfl
theorem EN_shaped : ∀ z ∈ EN, SeqAt.shaped (.str z) = true := by decide +kernel
theorem rep_flat (v : V) : ∀ n, (List.replicate n [v]).flatten = List.replicate n v
  | 0 => rfl
  | n + 1 => by
    rw [List.replicate_succ, List.flatten_cons, rep_flat v n]
    rfl
theorem range_map {β : Type} (f : Nat → β) (i : Nat) : (List.range (i + 1)).map f = (List.range i).map f ++ [f i] := by
  rw [List.range_succ, List.map_append]
  rfl
abbrev rowD (i : Nat) : PyData := .list [.bool (decide (i = 0)), .bool (decide (i = 1)), .bool (decide (i = 2)), .bool (decide (i = 3)), .bool (decide (i = 4)), .bool (decide (i = 5)), .bool (decide (i = 6)), .bool (decide (i = 7)), .bool (decide (i = 8)), .bool (decide (i = 9)), .bool (decide (i = 10)), .bool (decide (i = 11)), .bool (decide (i = 12)), .bool (decide (i = 13)), .bool (decide (i = 14)), .bool (decide (i = 15)), .bool (decide (i = 16)), .bool (decide (i = 17)), .bool (decide (i = 18)), .bool (decide (i = 19)), .bool (decide (i = 20)), .bool (decide (i = 21)), .bool (decide (i = 22)), .bool (decide (i = 23)), .bool (decide (i = 24)), .bool (decide (i = 25)), .bool (decide (i = 26))]
abbrev squareD : PyData := .list ((List.range 27).map rowD)
theorem square_shaped : SeqAt.shaped squareD = true := by decide +kernel
theorem square_eq : PyData.eqv squareD squareD = true := by decide +kernel
abbrev kindD (i : Nat) : PyData := .list [.bool (decide (i < 24)), .bool (decide (i < 24)), .bool (decide (24 ≤ i ∧ i < 26)), .bool (decide (24 ≤ i)), .bool (decide (i = 26))]
abbrev kindsD : PyData := .list ((List.range 27).map kindD)
abbrev kA : PyData := .list [.bool true, .bool true, .bool false, .bool false, .bool false]
abbrev kB : PyData := .list [.bool false, .bool false, .bool true, .bool true, .bool false]
abbrev kC : PyData := .list [.bool false, .bool false, .bool false, .bool true, .bool true]
abbrev kindsE : PyData := .list (List.replicate 24 kA ++ List.replicate 2 kB ++ [kC])
theorem kinds_shaped : SeqAt.shaped kindsD = true ∧ SeqAt.shaped kindsE = true := by decide +kernel
theorem kinds_eq : PyData.eqv kindsD kindsE = true := by decide +kernel
end Lw

/-! Shortest ways: ratios as pairs, and the closing of a table of lengths. -/
namespace VG
/-- the value of a pair (top, bottom) -/
def ratV (s : Int × Int) : Rat := (s.1 : Rat) / (s.2 : Rat)
theorem cast_pos {b : Int} (h : 0 < b) : (0 : Rat) < (b : Rat) := by exact_mod_cast h
theorem ratV_eq {t b u v : Int} (hb : 0 < b) (hv : 0 < v) (h : t * v = u * b) : ratV (t, b) = ratV (u, v) := by
  have h1 := cast_pos hb
  have h2 := cast_pos hv
  have h3 : (t : Rat) * v = u * b := by exact_mod_cast h
  show (t : Rat) / b = u / v
  grind
theorem ratV_add {s t : Int × Int} (hs : 0 < s.2) (ht : 0 < t.2) : ratV (s.1 * t.2 + t.1 * s.2, s.2 * t.2) = ratV s + ratV t := by
  have h1 := cast_pos hs
  have h2 := cast_pos ht
  show (((s.1 * t.2 + t.1 * s.2 : Int)) : Rat) / ((s.2 * t.2 : Int) : Rat) = s.1 / s.2 + t.1 / t.2
  rw [Rat.intCast_add, Rat.intCast_mul, Rat.intCast_mul, Rat.intCast_mul]
  grind
theorem ratV_lt {s t : Int × Int} (hs : 0 < s.2) (ht : 0 < t.2) : ratV s < ratV t ↔ s.1 * t.2 < t.1 * s.2 := by
  have h1 := cast_pos hs
  have h2 := cast_pos ht
  show (s.1 : Rat) / s.2 < t.1 / t.2 ↔ _
  have e1 : (s.1 : Rat) / s.2 < t.1 / t.2 ↔ (s.1 : Rat) * t.2 < t.1 * s.2 := by
    rw [Rat.div_lt_iff h1, show (t.1 : Rat) / t.2 * s.2 = (t.1 * s.2) / t.2 by grind, Rat.lt_div_iff h2]
  rw [e1]
  exact_mod_cast Iff.rfl
/-! ### the closing of a table of lengths -/
def minR (a b : Rat) : Rat := if b < a then b else a
theorem minR_le {a b : Rat} : minR a b ≤ a ∧ minR a b ≤ b := by unfold minR; grind
theorem minR_or {a b : Rat} : minR a b = a ∨ minR a b = b := by unfold minR; grind
def cloR (f : Nat → Nat → Rat) : Nat → Nat → Nat → Rat
  | 0 => f
  | m + 1 => fun i j => minR (cloR f m i j) (cloR f m i m + cloR f m m j)
/-- what a table of lengths is: none below zero, zero from a place to itself -/
structure LenR (n : Nat) (f : Nat → Nat → Rat) : Prop where
  nn : ∀ i j, i < n → j < n → 0 ≤ f i j
  zz : ∀ i, i < n → f i i = 0
theorem clo_len {n : Nat} {f : Nat → Nat → Rat} (h : LenR n f) : ∀ m, m ≤ n → LenR n (cloR f m)
  | 0, _ => h
  | m + 1, hm => by
    have ih := clo_len h m (by omega)
    refine ⟨fun i j hi hj => ?_, fun i hi => ?_⟩
    · have a := ih.nn i j hi hj
      have b := ih.nn i m hi (by omega)
      have c := ih.nn m j (by omega) hj
      show 0 ≤ minR _ _
      unfold minR
      grind
    · have a := ih.zz i hi
      have b := ih.nn i m hi (by omega)
      have c := ih.nn m i (by omega) hi
      show minR _ _ = 0
      unfold minR
      grind
theorem clo_tri {n : Nat} {f : Nat → Nat → Rat} (h : LenR n f) : ∀ m, m ≤ n → ∀ i j k, i < n → j < n → k < m → cloR f m i j ≤ cloR f m i k + cloR f m k j
  | 0, _, _, _, _, _, _, hk => absurd hk (by omega)
  | m + 1, hm, i, j, k, hi, hj, hk => by
    have L := clo_len h m (by omega)
    have ih := clo_tri h m (by omega)
    have hm' : m < n := by omega
    have hkn : k < n := by omega
    have zm := L.zz m hm'
    have n1 := L.nn i m hi hm'
    have n2 := L.nn m j hm' hj
    show minR (cloR f m i j) (cloR f m i m + cloR f m m j) ≤ minR (cloR f m i k) (cloR f m i m + cloR f m m k) + minR (cloR f m k j) (cloR f m k m + cloR f m m j)
    by_cases e : k = m
    · subst e
      unfold minR
      grind
    · have hk' : k < m := by omega
      have t1 := ih i j k hi hj hk'
      have t2 := ih m j k hm' hj hk'
      have t3 := ih i m k hi hm' hk'
      have n3 := L.nn m k hm' hkn
      have n4 := L.nn k m hkn hm'
      unfold minR
      grind
/-- no way by a third place is shorter -/
theorem clo_ways {n : Nat} {f : Nat → Nat → Rat} (h : LenR n f) {i j k : Nat} (hi : i < n) (hj : j < n) (hk : k < n) : cloR f n i j ≤ cloR f n i k + cloR f n k j := clo_tri h n (Nat.le_refl n) i j k hi hj hk
/-- the closing makes no length greater -/
theorem clo_le (f : Nat → Nat → Rat) : ∀ m i j, cloR f m i j ≤ f i j
  | 0, _, _ => Rat.le_refl
  | m + 1, i, j => by
    have ih := clo_le f m i j
    show minR _ _ ≤ _
    unfold minR
    grind
end VG

set_option maxRecDepth 100000
set_option linter.unusedVariables false
set_option maxHeartbeats 4000000
namespace Lw
open PySem PySem.Spec PyProof.Rows L2 VG
abbrev NL : List Str := ["_law_script", "_law_src", "_law_one", "_law_two", "_law_three", "_law_some", "_law_codes", "_law_bare", "_law_due", "_law_kinds", "_law_e", "_law_code", "_law_k", "_law_j"]
theorem scLaw : FnScope NL ["_law_script"] (defScope sLaw) := ⟨rfl, rfl, rfl, by decide +kernel, rfl, by decide +kernel, by decide +kernel⟩
theorem Src.on {H H' : Hp} {p q : Addr} {cells : List Int} (s : Src H p q cells) (e : Same H H') : Src H' p q cells := by
  obtain ⟨⟨i, c, sd, n, h1, h2, h3⟩, h4, h5, h6⟩ := s
  exact ⟨⟨i, c, sd, n, e _ _ h1, h2, h3⟩, e _ _ h4, h5, h6⟩
theorem Src.lst {H : Hp} {p q : Addr} {cells : List Int} (h : Src H p q cells) : ∃ ys, H p = some (.lst ys) := let ⟨_, _, _, _, e, _⟩ := h.ex; ⟨_, e⟩
theorem Src.new {H : Hp} {p q D : Addr} {cells : List Int} (h : Src H p q cells) (hD : H D = none) : D ≠ p := fun z => by
  obtain ⟨ys, hy⟩ := h.lst
  rw [z, hy] at hD
  cases hD
theorem But.exs {p : Addr} {H H' : Hp} (b : But p H H') : Exs [p] H H' := Exs.but List.mem_cons_self b
theorem paired_at {α β : Type} {R : α → β → Prop} : ∀ {xs : List α} {es : List β} {i : Nat} {x : α}, Paired R xs es → xs[i]? = some x → ∃ e, es[i]? = some e ∧ R x e
  | _, _, 0, _, .cons h _, e => by
    cases e
    exact ⟨_, rfl, h⟩
  | _, _, i + 1, _, .cons _ t, e => paired_at (i := i) t e
theorem paired_len {α β : Type} {R : α → β → Prop} : ∀ {xs : List α} {es : List β}, Paired R xs es → xs.length = es.length
  | _, _, .nil => rfl
  | _, _, .cons _ r => by rw [List.length_cons, List.length_cons, paired_len r]
theorem rep_dp {K : PySem.W.Frag} {H : Hp} {v : V} {d : PyData} (h : Dp K H v d) : ∀ n, DpAll K H (List.replicate n v) (List.replicate n d)
  | 0 => .nil
  | n + 1 => .cons h (rep_dp h n)
theorem dpAll_app {K : PySem.W.Frag} {H : Hp} {ws : List V} {es : List PyData} (b : DpAll K H ws es) : ∀ {vs : List V} {ds : List PyData}, DpAll K H vs ds → DpAll K H (vs ++ ws) (ds ++ es)
  | _, _, .nil => b
  | _, _, .cons x t => .cons x (dpAll_app b t)
theorem sqT_off {K : PySem.W.Frag} {G : Hp} {D a : Addr} {xs ys : List V} (hD : G D = some (.lst ys)) (h : SqT K G a xs) : SqT K (wos [D] G) a xs := by
  have off : ∀ {o : HO}, G a = some o → (∀ ys, o ≠ .lst ys) → wos [D] G a = some o := fun {o} e n => by
    rw [wos_out]
    · exact e
    · intro z
      rw [List.mem_singleton.mp z, hD] at e
      exact n ys (Option.some.inj e).symm
  rcases h with (h | ⟨o, h⟩) | h
  · exact .inl (.inl (off h fun _ z => nomatch z))
  · exact .inl (.inr ⟨o, off h fun _ z => nomatch z⟩)
  · exact .inr h
/-- what stood before the list at D is there without it -/
theorem off_new {G G' : Hp} {D : Addr} (hD : G D = none) (s : Same G G') : Same G (wos [D] G') := fun b o z => by
  rw [wos_out (fun y => by rw [List.mem_singleton.mp y, hD] at z; cases z)]
  exact s _ _ z
theorem take_map {α β : Type} (f : α → β) {xs : List α} {i : Nat} {x : α} (h : xs[i]? = some x) : (xs.take (i + 1)).map f = (xs.take i).map f ++ [f x] := by
  rw [List.take_add_one, h, List.map_append]
  rfl
theorem upd_off {G G' : Hp} {D : Addr} {o : HO} (hD : G D = none) (s : Same G G') : Same G (upd G' D o) := fun b u z => by
  rw [upd_ne (ne_of_none z hD)]
  exact s _ _ z
structure Dt (K : PySem.W.Frag) (G : Hp) (v1 v2 v3 : V) (d1 d2 d3 : PyData) : Prop where
  a : Dp K G v1 d1
  b : Dp K G v2 d2
  c : Dp K G v3 d3
theorem Dt.same {K : PySem.W.Frag} {G G' : Hp} {v1 v2 v3 : V} {d1 d2 d3 : PyData} (s : Same G G') (h : Dt K G v1 v2 v3 d1 d2 d3) : Dt K G' v1 v2 v3 d1 d2 d3 := ⟨Dp.same s _ _ h.a, Dp.same s _ _ h.b, Dp.same s _ _ h.c⟩
theorem str_all {K : PySem.W.Frag} {H : Hp} : ∀ zs : List Str, DpAll K H (zs.map V.str) (zs.map PyData.str)
  | [] => .nil
  | z :: zs => .cons (.str z) (str_all zs)
/-- a promise of a def of the law -/
structure Def (P : Program) (w : World) (K : PySem.W.Frag) (mg : Str → Option Value) (base : Heap) (CX : CXT) (k : Nat) (x : Str) (ps : List Str) (sp : Sp) (f : Addr) (fd : FuncData) : Prop where
  ok : FnOk P w K mg base CX k f fd ps sp
  at_ : mg x = some (.ref f)
  kp : PySem.W.keepIn K (.ref f) = true
  bd : L2.Binds K fd ps []
structure LawT (P : Program) (w : World) (K : PySem.W.Frag) (mg : Str → Option Value) (base : Heap) (g : Str → Addr) (cM cI : Addr) : Prop where
  src : ∃ f fd, Def P w K mg base CX0 1 "_law_source" ["_law_script"] (spSource K) f fd
  draw : ∃ f fd, Def P w K mg base CX0 1 "_law_draw" ["_law_src", "_law_many"] spDraw f fd
  of_ : ∃ f fd, Def P w K mg base CX0 2 "_law_of" ["_law_src", "_law_some"] (spOf K) f fd
  same : ∃ f fd, FnG P w K mg base CX0 1 f fd ["_law_found", "_law_due"] (spSame K) ∧ mg "_law_same" = some (.ref f) ∧ PySem.W.keepIn K (.ref f) = true ∧ L2.Binds K fd ["_law_found", "_law_due"] []
  fields : ∃ f fd, Def P w K mg base CX0 1 "_law_fields" ["_law_e"] (spFieldsO K) f fd
  first : ∃ f fd, Def P w K mg base CX0 1 "_law_first_classes" ["_law_e"] (spFirst K g) f fd
  last : ∃ f fd, Def P w K mg base CX0 1 "_law_last_classes" ["_law_e"] (spLast K g) f fd
  kinds : KindT K mg g
  e0 : ErrV P w K mg base "InvalidRatio" ["given"] (g "InvalidRatio") 4 2 1 []
  e1 : ErrV P w K mg base "InvalidNumber" ["given"] (g "InvalidNumber") 4 2 0 ["given"]
  e2 : ErrV P w K mg base "InvalidName" ["given"] (g "InvalidName") 4 2 1 []
  e3 : ErrV P w K mg base "DuplicateName" ["name"] (g "DuplicateName") 4 2 0 ["name"]
  e4 : ErrV P w K mg base "InvalidRow" ["at"] (g "InvalidRow") 4 2 1 []
  e5 : ErrV P w K mg base "InvalidLayer" ["given"] (g "InvalidLayer") 4 2 1 []
  e6 : ErrV P w K mg base "InvalidTable" ["layer"] (g "InvalidTable") 4 2 0 ["layer"]
  e7 : ErrV P w K mg base "InvalidWay" ["layer", "start", "goal"] (g "InvalidWay") 4 2 2 ["goal"]
  e8 : ErrV P w K mg base "InvalidPlace" ["given"] (g "InvalidPlace") 4 2 1 []
  e9 : ErrV P w K mg base "InvalidPoint" ["given"] (g "InvalidPoint") 4 2 0 ["given"]
  e10 : ErrV P w K mg base "InvalidForm" ["given"] (g "InvalidForm") 4 2 1 []
  e11 : ErrV P w K mg base "InvalidStep" ["path"] (g "InvalidStep") 4 2 0 ["path"]
  e12 : ErrV P w K mg base "UnlikeEnds" ["path"] (g "UnlikeEnds") 4 2 1 []
  e13 : ErrV P w K mg base "InvalidText" ["word"] (g "InvalidText") 4 2 0 ["word"]
  e14 : ErrV P w K mg base "InvalidFact" ["at"] (g "InvalidFact") 4 2 0 ["at"]
  e15 : ErrV P w K mg base "UnlikeScripts" [] (g "UnlikeScripts") 4 2 0 []
  e16 : ErrV P w K mg base "UnlikeWorlds" [] (g "UnlikeWorlds") 4 2 0 []
  e17 : ErrV P w K mg base "HasTests" [] (g "HasTests") 4 2 0 []
  e18 : ErrV P w K mg base "NoWorld" [] (g "NoWorld") 4 2 0 []
  e19 : ErrV P w K mg base "InvalidCommand" ["at"] (g "InvalidCommand") 4 2 1 []
  e20 : ErrV P w K mg base "InvalidLimit" ["given"] (g "InvalidLimit") 4 2 1 []
  e21 : ErrV P w K mg base "Full" ["limit"] (g "Full") 4 2 0 ["limit"]
  e22 : ErrV P w K mg base "InvalidPage" ["line"] (g "InvalidPage") 4 2 0 ["line"]
  e23 : ErrV P w K mg base "TooMany" ["subject", "most"] (g "TooMany") 4 2 1 ["most"]
  e24 : ErrV P w K mg base "UnknownName" ["name"] (g "UnknownName") 4 2 1 []
  e25 : ErrV P w K mg base "UnknownScript" ["word"] (g "UnknownScript") 4 2 0 ["word"]
  e26 : ErrV P w K mg base "NothingLeft" [] (g "NothingLeft") 4 2 0 []
  kM : ∀ (i : Nat) (a : Str), EN[i]? = some a → PySem.W.kitOne K (.ref (g a)) (.ref cM) = some (decide (i < 24))
  kV : ∀ (i : Nat) (a : Str), EN[i]? = some a → PySem.W.kitOne K (.ref (g a)) (.type "ValueError") = some (decide (i < 24))
  kI : ∀ (i : Nat) (a : Str), EN[i]? = some a → PySem.W.kitOne K (.ref (g a)) (.ref cI) = some (decide (24 ≤ i ∧ i < 26))
  kL : ∀ (i : Nat) (a : Str), EN[i]? = some a → PySem.W.kitOne K (.ref (g a)) (.type "LookupError") = some (decide (24 ≤ i))
  kX : ∀ (i : Nat) (a : Str), EN[i]? = some a → PySem.W.kitOne K (.ref (g a)) (.type "IndexError") = some (decide (i = 26))
  gM : mg "MilesError" = some (.ref cM)
  gI : mg "Missing" = some (.ref cI)
  bV : mg "ValueError" = none
  bL : mg "LookupError" = none
  bI : mg "IndexError" = none
  isi : mg "isinstance" = none
  rng : mg "range" = none
def spLaw (K : PySem.W.Frag) : Sp := fun vs H Q _ => ∃ (a : Addr) (ns : List Int), vs = [.ref a] ∧ SqL K H a (ns.map V.int) ∧ ns.length ≤ 63 ∧ ∀ H', Q (.bl true) H'
def ifT : Stmt → Expr
  | .If (test := t) .. => t
  | _ => .List [] ⟨0, 0, 0, 0⟩
def cmpR : Expr → Expr
  | .Compare _ _ (c :: _) _ => c
  | e => e
def cmpE : Expr := cmpR (ifT ((defBody sLaw).getD 10 (.Pass ⟨0, 0, 0, 0⟩)))
def SC1 : Scope := lcScope (defScope sLaw) cmpE
end Lw

set_option maxRecDepth 100000
set_option linter.unusedVariables false
set_option maxHeartbeats 4000000
namespace Lw
open PySem PySem.Spec PyProof.Rows L2 VG
section
variable {P : Program} {w : World} {K : PySem.W.Frag} {mg : Str → Option Value} {base : Heap}
theorem ok_law {f cM cI : Addr} {g : Str → Addr} {fd : FuncData} (F : Fun K "law" "law" sLaw f fd) (T : LawT P w K mg base g cM cI) : FnG P w K mg base CX0 7 f fd ["_law_script"] (spLaw K) := by
  obtain ⟨fS, dS, GS⟩ := T.src
  obtain ⟨fD, dD, GD⟩ := T.draw
  obtain ⟨fO, dO, GO⟩ := T.of_
  obtain ⟨fE, dE, GE, mE, kE, bE⟩ := T.same
  obtain ⟨fF, dF, GF⟩ := T.fields
  obtain ⟨f1, df1, G1⟩ := T.first
  obtain ⟨f2, df2, G2⟩ := T.last
  refine okG F scLaw (fun vs H Q E h => ?_) (fun cdv A outer s H vs Q E hG hr h => ?_)
  · obtain ⟨a, ns, rfl, _⟩ := h
    rfl
  · obtain ⟨a, ns, rfl, hS, hlen, k⟩ := h
    have nd := scLaw.nd
    have hr1 : Room 1 _ := hr.mono (by decide)
    have hr2 : Room 2 _ := hr.mono (by decide)
    have hr5 : Room 5 _ := hr.mono (by decide)
    refine ⟨_, (pss_cons (ps_set (i := 1) nd rfl (by first | exact Or.inl rfl | exact Or.inr rfl) (pe_call GS.ok hr1 (by rfl) GS.at_ GS.kp GS.bd .nil pass0 (pa_cons (pv 0) pa_nil)))
      (C8.pss_cut (ps_set (i := 2) nd rfl (by first | exact Or.inl rfl | exact Or.inr rfl) (pe_call GO.ok hr2 (by rfl) GO.at_ GO.kp GO.bd .nil pass0 (pa_cons (pv 1) (pa_cons (pe_lst (pa_cons pe_non (pa_cons pe_str (pa_cons pe_int (pa_cons (pe_tup (pa_cons pe_str (pa_cons pe_int pa_nil))) (pa_cons pe_bl (pa_cons (pe_lst (pa_cons pe_int (pa_cons pe_str pa_nil))) (pa_cons (pe_call GD.ok hr1 (by rfl) GD.at_ GD.kp GD.bd .nil pass0 (pa_cons (pv 1) (pa_cons (pe_op op_pow pe_int pe_int) pa_nil))) pa_nil)))))))) pa_nil))))
      (C8.pss_cut (ps_par (i := 3) (j := 4) (by rfl) nd rfl rfl (by decide) rfl rfl (pa_cons (pe_call GO.ok hr2 (by rfl) GO.at_ GO.kp GO.bd .nil pass0 (pa_cons (pv 1) (pa_cons (pe_lst (pa_cons (pe_un un_neg pe_int) (pa_cons pe_int (pa_cons (pe_call GD.ok hr1 (by rfl) GD.at_ GD.kp GD.bd .nil pass0 (pa_cons (pv 1) (pa_cons pe_int pa_nil))) (pa_cons pe_non (pa_cons pe_str pa_nil)))))) pa_nil))) (pa_cons (pe_call GO.ok hr2 (by rfl) GO.at_ GO.kp GO.bd .nil pass0 (pa_cons (pv 1) (pa_cons (pe_lst (pa_cons pe_int (pa_cons pe_str (pa_cons (pe_tup pa_nil) pa_nil)))) pa_nil))) pa_nil)) (by rfl))
      (C8.pss_cut (ps_set (i := 5) nd rfl (by first | exact Or.inl rfl | exact Or.inr rfl) (pe_lst (pa_cons (pe_errV T.e0 hr5 (by rfl) (pa_cons (pv 2) pa_nil)) (pa_cons (pe_errK0 T.e1 hr5 (by rfl) (pk_cons (pv 2) pk_nil)) (pa_cons (pe_errV T.e2 hr5 (by rfl) (pa_cons (pv 2) pa_nil)) (pa_cons (pe_errK0 T.e3 hr5 (by rfl) (pk_cons (pv 2) pk_nil)) (pa_cons (pe_errV T.e4 hr5 (by rfl) (pa_cons (pv 2) pa_nil)) (pa_cons (pe_errV T.e5 hr5 (by rfl) (pa_cons (pv 2) pa_nil)) (pa_cons (pe_errK0 T.e6 hr5 (by rfl) (pk_cons (pv 2) pk_nil)) (pa_cons (pe_errK T.e7 hr5 (by rfl) (pa_cons (pv 2) (pa_cons (pv 3) pa_nil)) (pk_cons (pv 4) pk_nil)) (pa_cons (pe_errV T.e8 hr5 (by rfl) (pa_cons (pv 2) pa_nil)) (pa_cons (pe_errK0 T.e9 hr5 (by rfl) (pk_cons (pv 2) pk_nil)) (pa_cons (pe_errV T.e10 hr5 (by rfl) (pa_cons (pv 2) pa_nil)) (pa_cons (pe_errK0 T.e11 hr5 (by rfl) (pk_cons (pv 2) pk_nil)) (pa_cons (pe_errV T.e12 hr5 (by rfl) (pa_cons (pv 2) pa_nil)) (pa_cons (pe_errK0 T.e13 hr5 (by rfl) (pk_cons (pv 2) pk_nil)) (pa_cons (pe_errK0 T.e14 hr5 (by rfl) (pk_cons (pv 2) pk_nil)) (pa_cons (pe_err0 T.e15 hr5 (by rfl)) (pa_cons (pe_err0 T.e16 hr5 (by rfl)) (pa_cons (pe_err0 T.e17 hr5 (by rfl)) (pa_cons (pe_err0 T.e18 hr5 (by rfl)) (pa_cons (pe_errV T.e19 hr5 (by rfl) (pa_cons (pv 2) pa_nil)) (pa_cons (pe_errV T.e20 hr5 (by rfl) (pa_cons (pv 2) pa_nil)) (pa_cons (pe_errK0 T.e21 hr5 (by rfl) (pk_cons (pv 2) pk_nil)) (pa_cons (pe_errK0 T.e22 hr5 (by rfl) (pk_cons (pv 2) pk_nil)) (pa_cons (pe_errK T.e23 hr5 (by rfl) (pa_cons (pv 2) pa_nil) (pk_cons (pv 3) pk_nil)) (pa_cons (pe_errV T.e24 hr5 (by rfl) (pa_cons (pv 2) pa_nil)) (pa_cons (pe_errK0 T.e25 hr5 (by rfl) (pk_cons (pv 2) pk_nil)) (pa_cons (pe_err0 T.e26 hr5 (by rfl)) pa_nil)))))))))))))))))))))))))))))
      (C8.pss_cut (ps_set (i := 6) nd rfl (by first | exact Or.inl rfl | exact Or.inr rfl) (pe_lst (pa_cons pe_str (pa_cons pe_str (pa_cons pe_str (pa_cons pe_str (pa_cons pe_str (pa_cons pe_str (pa_cons pe_str (pa_cons pe_str (pa_cons pe_str (pa_cons pe_str (pa_cons pe_str (pa_cons pe_str (pa_cons pe_str (pa_cons pe_str (pa_cons pe_str (pa_cons pe_str (pa_cons pe_str (pa_cons pe_str (pa_cons pe_str (pa_cons pe_str (pa_cons pe_str (pa_cons pe_str (pa_cons pe_str (pa_cons pe_str (pa_cons pe_str (pa_cons pe_str (pa_cons pe_str pa_nil)))))))))))))))))))))))))))))
      (C8.pss_cut (ps_if (pt_not (pt_val (pe_callG GE hG hr1 (by rfl) mE kE bE .nil pass0 (pa_cons (pe_lc (own := [("_law_e", 10)]) (g := gName 10) (tt := tYes) rfl nd (show PI _ _ _ (iList K _) from pi_list (pv 5)) (blkOk_by (own := [("_law_e", 10)]) (N := NL) (sc := defScope sLaw) (by decide +kernel)) (fun _ _ _ _ _ => pg_name (i := 10) nd rfl (by first | exact Or.inl rfl | exact Or.inr rfl)) (fun _ _ _ _ _ => pts_nil)
            (fun _ _ _ _ _ => (show PE _ _ (tXo K "code" (tVar 10)) from pe_xo (show ("code" : Str) ∈ exFields by decide) (pv 10)))) (pa_cons (pv 6) pa_nil))))) (pss_one (ps_ret pe_bl)) pss_nil)
      (C8.pss_cut (ps_set (i := 7) nd rfl (by first | exact Or.inl rfl | exact Or.inr rfl) (pe_lst (pa_cons pe_str (pa_cons pe_str (pa_cons pe_str (pa_cons pe_str (pa_cons pe_str pa_nil)))))))
      (C8.pss_cut (ps_setLc (i := 8) (own := [("_law_code", 11)]) (g := gName 11) (tt := tYes) (by rfl) nd rfl rfl (sw_true rfl rfl rfl (by decide +kernel)) (show PI _ _ _ (iList K _) from pi_list (pv 6)) (blkOk_by (own := [("_law_code", 11)]) (N := NL) (sc := defScope sLaw) (by decide +kernel)) (fun _ _ _ _ _ => pg_name (i := 11) nd rfl (by first | exact Or.inl rfl | exact Or.inr rfl)) (fun _ _ _ _ _ => pts_nil)
          (fun _ _ _ _ _ => (pe_ifExp (pt_cmpR (show OpR _ (compareOp .In) (rIn K false) from op_in_seq) (pv 11) (pv 7) (by with_unfolding_all rfl)) (pe_tup pa_nil) (pe_tup (pa_cons (pv 2) pa_nil)))))
      (C8.pss_cut (ps_asg (pe_tup (pa_cons (pe_tup (pa_cons (pv 2) (pa_cons (pv 3) (pa_cons (pv 4) pa_nil)))) (pa_cons (pe_tup (pa_cons (pv 2) (pa_cons (pv 3) pa_nil))) pa_nil))) (pg_tup (by rfl) (pgs_cons (pg_sub (pv 8) pe_int set_list) (pgs_cons (pg_sub (pv 8) pe_int set_list) pgs_nil))))
      (C8.pss_cut (ps_if (pt_not (pt_val (pe_callG GE hG hr1 (by rfl) mE kE bE .nil pass0 (pa_cons (pe_lc (own := [("_law_e", 10)]) (g := gName 10) (tt := tYes) rfl nd (show PI _ _ _ (iList K _) from pi_list (pv 5)) (blkOk_by (own := [("_law_e", 10)]) (N := NL) (sc := defScope sLaw) (by decide +kernel)) (fun _ _ _ _ _ => pg_name (i := 10) nd rfl (by first | exact Or.inl rfl | exact Or.inr rfl)) (fun _ _ _ _ _ => pts_nil)
            (fun _ _ _ _ _ => (pe_call GF.ok hr1 (by rfl) GF.at_ GF.kp GF.bd .nil pass0 (pa_cons (pv 10) pa_nil)))) (pa_cons (pv 8) pa_nil))))) (pss_one (ps_ret pe_bl)) pss_nil)
      (C8.pss_cut (ps_if (pt_cmpR (op_neD hr1.units) (pe_lc (own := [("_law_e", 10)]) (g := gName 10) (tt := tYes) rfl nd (show PI _ _ _ (iList K _) from pi_list (pv 5)) (blkOk_by (own := [("_law_e", 10)]) (N := NL) (sc := defScope sLaw) (by decide +kernel)) (fun _ _ _ _ _ => pg_name (i := 10) nd rfl (by first | exact Or.inl rfl | exact Or.inr rfl)) (fun _ _ _ _ _ => pts_nil)
            (fun _ _ _ _ _ => (pe_op op_cat (pe_call G1.ok hr1 (by rfl) G1.at_ G1.kp G1.bd .nil pass0 (pa_cons (pv 10) pa_nil)) (pe_call G2.ok hr1 (by rfl) G2.at_ G2.kp G2.bd .nil pass0 (pa_cons (pv 10) pa_nil))))) (pe_lc (own := [("_law_k", 12)]) (g := gName 12) (tt := tYes) rfl nd (pi_range1 (by rfl) T.rng (pa_cons pe_int pa_nil)) (blkOk_by (own := [("_law_k", 12)]) (N := NL) (sc := defScope sLaw) (by decide +kernel)) (fun _ _ _ _ _ => pg_name (i := 12) nd rfl (by first | exact Or.inl rfl | exact Or.inr rfl)) (fun _ _ _ _ _ => pts_nil)
            (fun _ _ _ _ _ => (pe_lc (own := [("_law_j", 13)]) (g := gName 13) (tt := tYes) rfl nd (pi_range1 (by rfl) T.rng (pa_cons pe_int pa_nil)) (blkOk_in (own := [("_law_j", 13)]) (N := NL) (sc := relS SC1 (defScope sLaw)) (by rfl) (by decide +kernel)) (fun _ _ _ _ _ => pg_name (i := 13) nd rfl (by first | exact Or.inl rfl | exact Or.inr rfl)) (fun _ _ _ _ _ => pts_nil)
            (fun _ _ _ _ _ => (pe_cmpR op_eq (pv 12) (pv 13) (nomark _)))))) (nomark _)) (pss_one (ps_ret pe_bl)) pss_nil)
      (C8.pss_cut (ps_setLc (i := 9) (own := [("_law_e", 10)]) (g := gName 10) (tt := tYes) (by rfl) nd rfl rfl (sw_true rfl rfl rfl (by decide +kernel)) (show PI _ _ _ (iList K _) from pi_list (pv 5)) (blkOk_by (own := [("_law_e", 10)]) (N := NL) (sc := defScope sLaw) (by decide +kernel)) (fun _ _ _ _ _ => pg_name (i := 10) nd rfl (by first | exact Or.inl rfl | exact Or.inr rfl)) (fun _ _ _ _ _ => pts_nil)
          (fun _ _ _ _ _ => (pe_lst (pa_cons (pe_callB (show CallR _ (.builtin "isinstance") (rIsX K) from call_isX) (by rfl) T.isi (by decide +kernel) (pa_cons (pv 10) (pa_cons (pe_glob (v := .ref cM) (by rfl) T.gM rfl) pa_nil))) (pa_cons (pe_callB (show CallR _ (.builtin "isinstance") (rIsX K) from call_isX) (by rfl) T.isi (by decide +kernel) (pa_cons (pv 10) (pa_cons (pe_bltn (v := .ty "ValueError") (by rfl) T.bV (by decide +kernel) rfl) pa_nil))) (pa_cons (pe_callB (show CallR _ (.builtin "isinstance") (rIsX K) from call_isX) (by rfl) T.isi (by decide +kernel) (pa_cons (pv 10) (pa_cons (pe_glob (v := .ref cI) (by rfl) T.gI rfl) pa_nil))) (pa_cons (pe_callB (show CallR _ (.builtin "isinstance") (rIsX K) from call_isX) (by rfl) T.isi (by decide +kernel) (pa_cons (pv 10) (pa_cons (pe_bltn (v := .ty "LookupError") (by rfl) T.bL (by decide +kernel) rfl) pa_nil))) (pa_cons (pe_callB (show CallR _ (.builtin "isinstance") (rIsX K) from call_isX) (by rfl) T.isi (by decide +kernel) (pa_cons (pv 10) (pa_cons (pe_bltn (v := .ty "IndexError") (by rfl) T.bI (by decide +kernel) rfl) pa_nil))) pa_nil))))))))
      (pss_one (ps_ret (pe_cmpR (op_eqD hr1.units) (pv 9) (pe_op op_cat (pe_op op_cat (pe_op op_rep (pe_lst (pa_cons (pe_lst (pa_cons pe_bl (pa_cons pe_bl (pa_cons pe_bl (pa_cons pe_bl (pa_cons pe_bl pa_nil)))))) pa_nil)) pe_int) (pe_op op_rep (pe_lst (pa_cons (pe_lst (pa_cons pe_bl (pa_cons pe_bl (pa_cons pe_bl (pa_cons pe_bl (pa_cons pe_bl pa_nil)))))) pa_nil)) pe_int)) (pe_lst (pa_cons (pe_lst (pa_cons pe_bl (pa_cons pe_bl (pa_cons pe_bl (pa_cons pe_bl (pa_cons pe_bl pa_nil)))))) pa_nil))) (nomark _)))))))))))))))), ?_⟩
    have z0 : (0 : Nat) ≤ sizeLine := by decide
    have z1000 : (0 : Nat) ≤ 1000 := by decide
    have one : (1 : Nat) ≤ sizeLine := by decide
    have two : (2 : Nat) ≤ sizeLine := by decide
    have three : (3 : Nat) ≤ sizeLine := by decide
    have five : (5 : Nat) ≤ sizeLine := by decide
    have n27 : (27 : Nat) ≤ sizeLine := by decide
    refine ⟨_, rfl, a, ns, rfl, hS, hlen, fun p q H1 hp0 hq0 sm1 S1 => ?_⟩
    -- the first value
    refine ⟨fun σ G => ∃ (v1 : V) (d1 : PyData) (o3 o4 o5 o6 o7 o8 o9 o10 o11 o12 o13 : Option V), σ = [some (.ref a), some (.ref p), some v1, o3, o4, o5, o6, o7, o8, o9, o10, o11, o12, o13] ∧ Dp K (wos [p] G) v1 d1 ∧ Odd1 d1 ∧ Src G p q ns, ?_, ?_⟩
    · refine ⟨_, rfl, two, fun T0 hT0 => ⟨two, fun L0 hL0 => ?_⟩⟩
      have mT := same_upd (o := .tup [.str "b", .int 1]) hT0
      have mL := same_upd (o := .lst [.int 1, .str "c"]) hL0
      have nT := S1.new hT0
      have SA := (S1.on mT).on mL
      have nL := (S1.on mT).new hL0
      refine ⟨_, rfl, _, _, rfl, rfl, ⟨by decide, by decide, by decide⟩, p, q, ns, 10 ^ 18, rfl, SA, by decide, by decide, fun r G2 a1 b1 S2 B2 => ⟨by show 7 ≤ sizeLine; decide, fun M hM => ?_⟩⟩
      have mM := same_upd (o := .lst [.non, .str "a", .int 3, .ref T0, .bl true, .ref L0, .int r]) hM
      have nM := S2.new hM
      refine ⟨p, q, ns, .ref M, rfl, S2.on mM, .inl ⟨M, _, rfl, fun H' Bx => .inl (SqL.of ((Bx M nM).trans upd_same)), by show 0 < 7; decide, by show 7 < 1000000; decide, fun j v G3 hv S3 B3 => ?_⟩⟩
      have hT3 : G3 T0 = some (.tup [.str "b", .int 1]) := (B3 T0 nT).trans (mM _ _ ((B2 T0 nT).trans (mL _ _ upd_same)))
      have hL3 : G3 L0 = some (.lst [.int 1, .str "c"]) := (B3 L0 nL).trans (mM _ _ ((B2 L0 nL).trans upd_same))
      have hm := List.mem_of_getElem? hv
      have odd : ∃ d, Dp K (wos [p] G3) v d ∧ Odd1 d := by
        simp only [List.mem_cons, List.not_mem_nil, or_false] at hm
        rcases hm with rfl | rfl | rfl | rfl | rfl | rfl | rfl
        · exact ⟨_, .non, odd_non⟩
        · exact ⟨_, .str _, odd_str (by decide +kernel) (by decide +kernel)⟩
        · exact ⟨_, .int _, odd_int (by decide)⟩
        · exact ⟨_, .tup (SqT.of (by rw [wos_out (fun y => nT (List.mem_singleton.mp y))]; exact hT3)) (.cons (.str _) (.cons (.int _) .nil)), odd_tup⟩
        · exact ⟨_, .bl _, odd_bool _⟩
        · exact ⟨_, .lst (SqL.of (by rw [wos_out (fun y => nL (List.mem_singleton.mp y))]; exact hL3)) (.cons (.int _) (.cons (.str _) .nil)), odd_lst⟩
        · exact ⟨_, .int _, odd_int (Nat.lt_of_lt_of_le (show r.natAbs < 10 ^ 18 by omega) (by decide))⟩
      obtain ⟨d1, h1, o1⟩ := odd
      exact ⟨v, d1, _, _, _, _, _, _, _, _, _, _, _, rfl, h1, o1, S3⟩
    clear sm1 S1 hS hlen
    rintro σ G ⟨v1, d1, o3, o4, o5, o6, o7, o8, o9, o10, o11, o12, o13, rfl, h1, od1, S1⟩
    -- the second, the third
    refine ⟨fun σ G => ∃ (v2 v3 : V) (d2 d3 : PyData) (o5 o6 o7 o8 o9 o10 o11 o12 o13 : Option V), σ = [some (.ref a), some (.ref p), some v1, some v2, some v3, o5, o6, o7, o8, o9, o10, o11, o12, o13] ∧ Dt K G v1 v2 v3 d1 d2 d3 ∧ Odd1 d2 ∧ Odd1 d3, ?_, ?_⟩
    · refine ⟨_, rfl, _, rfl, _, rfl, p, q, ns, 400, rfl, S1, by decide, by decide, fun r G2 a1 b1 S2 B2 => ⟨five, fun M hM => ?_⟩⟩
      have mM := same_upd (o := .lst [.int (-1), .int 0, .int r, .non, .str "a"]) hM
      have nM := S2.new hM
      refine ⟨p, q, ns, .ref M, rfl, S2.on mM, .inl ⟨M, _, rfl, fun H' Bx => .inl (SqL.of ((Bx M nM).trans upd_same)), by show 0 < 5; decide, by show 5 < 1000000; decide, fun j v2 G3 hv S3 B3 => ?_⟩⟩
      have odd : ∃ d, (∀ H', Dp K H' v2 d) ∧ Odd1 d := by
        have hm := List.mem_of_getElem? hv
        simp only [List.mem_cons, List.not_mem_nil, or_false] at hm
        rcases hm with rfl | rfl | rfl | rfl | rfl
        · exact ⟨_, fun _ => .int _, odd_int (by decide)⟩
        · exact ⟨_, fun _ => .int _, odd_int (by decide)⟩
        · exact ⟨_, fun _ => .int _, odd_int (Nat.lt_of_lt_of_le (show r.natAbs < 400 by omega) (by decide))⟩
        · exact ⟨_, fun _ => .non, odd_non⟩
        · exact ⟨_, fun _ => .str _, odd_str (by decide +kernel) (by decide +kernel)⟩
      obtain ⟨d2, h2, od2⟩ := odd
      refine ⟨_, rfl, z0, fun T0 hT0 => ⟨three, fun M2 hM2 => ?_⟩⟩
      have mT := same_upd (o := .tup []) hT0
      have nT := S3.new hT0
      have mM2 := same_upd (o := .lst [.int 2, .str "b", .ref T0]) hM2
      have nM2 := (S3.on mT).new hM2
      refine ⟨p, q, ns, .ref M2, rfl, (S3.on mT).on mM2, .inl ⟨M2, _, rfl, fun H' Bx => .inl (SqL.of ((Bx M2 nM2).trans upd_same)), by show 0 < 3; decide, by show 3 < 1000000; decide, fun j v3 G4 hv S4 B4 => ?_⟩⟩
      have odd : ∃ d, Dp K G4 v3 d ∧ Odd1 d := by
        have hm := List.mem_of_getElem? hv
        simp only [List.mem_cons, List.not_mem_nil, or_false] at hm
        rcases hm with rfl | rfl | rfl
        · exact ⟨_, .int _, odd_int (by decide)⟩
        · exact ⟨_, .str _, odd_str (by decide +kernel) (by decide +kernel)⟩
        · exact ⟨_, .tup (SqT.of ((B4 T0 nT).trans (mM2 _ _ upd_same))) .nil, odd_nil⟩
      obtain ⟨d3, h3, od3⟩ := odd
      have eA : Exs [p] G G4 := B2.exs.trans ((Exs.of mM).trans (B3.exs.trans ((Exs.of mT).trans ((Exs.of mM2).trans B4.exs))))
      exact ⟨_, _, rfl, v2, v3, d2, d3, _, _, _, _, _, _, _, _, _, rfl, ⟨Dp.same wos_sub _ _ (Dp.same eA _ _ h1), h2 _, h3⟩, od2, od3⟩
    clear h1 S1
    rintro σ G ⟨v2, v3, d2, d3, o5, o6, o7, o8, o9, o10, o11, o12, o13, rfl, dt, od2, od3⟩
    -- the errors
    refine ⟨fun σ G => ∃ (L : Addr) (xs : List V) (o6 o7 o8 o9 o10 o11 o12 o13 : Option V), σ = [some (.ref a), some (.ref p), some v1, some v2, some v3, some (.ref L), o6, o7, o8, o9, o10, o11, o12, o13] ∧ Dt K G v1 v2 v3 d1 d2 d3 ∧ G L = some (.lst xs) ∧ Errs K g G xs (infos d1 d2 d3), ?_, ?_⟩
    · have t0 : Same G G := Same.refl G
      refine ⟨_, rfl, rfl, rfl, (by show 1 ≤ 1000; decide), mk_xo (nm := "InvalidRatio") (flds := ["given"]) (n := 2) (vs := [v1]) (zs := []) (ds := [d1]) rfl rfl (by decide) (.cons (Dp.same t0 _ _ dt.a) .nil) (fun d hd => by rw [List.mem_singleton.mp hd]; exact od1.f) fun a0 f0 H0 s0 x0 F0 => ?_⟩
      have t1 := Same.trans t0 s0
      refine ⟨_, rfl, rfl, rfl, (by show 0 ≤ 1000; decide), mk_xo (nm := "InvalidNumber") (flds := ["given"]) (n := 2) (vs := []) (zs := [v1]) (ds := [d1]) rfl rfl (by decide) (.cons (Dp.same t1 _ _ dt.a) .nil) (fun d hd => by rw [List.mem_singleton.mp hd]; exact od1.f) fun a1 f1 H1 s1 x1 F1 => ?_⟩
      have t2 := Same.trans t1 s1
      refine ⟨_, rfl, rfl, rfl, (by show 1 ≤ 1000; decide), mk_xo (nm := "InvalidName") (flds := ["given"]) (n := 2) (vs := [v1]) (zs := []) (ds := [d1]) rfl rfl (by decide) (.cons (Dp.same t2 _ _ dt.a) .nil) (fun d hd => by rw [List.mem_singleton.mp hd]; exact od1.f) fun a2 f2 H2 s2 x2 F2 => ?_⟩
      have t3 := Same.trans t2 s2
      refine ⟨_, rfl, rfl, rfl, (by show 0 ≤ 1000; decide), mk_xo (nm := "DuplicateName") (flds := ["name"]) (n := 2) (vs := []) (zs := [v1]) (ds := [d1]) rfl rfl (by decide) (.cons (Dp.same t3 _ _ dt.a) .nil) (fun d hd => by rw [List.mem_singleton.mp hd]; exact od1.f) fun a3 f3 H3 s3 x3 F3 => ?_⟩
      have t4 := Same.trans t3 s3
      refine ⟨_, rfl, rfl, rfl, (by show 1 ≤ 1000; decide), mk_xo (nm := "InvalidRow") (flds := ["at"]) (n := 2) (vs := [v1]) (zs := []) (ds := [d1]) rfl rfl (by decide) (.cons (Dp.same t4 _ _ dt.a) .nil) (fun d hd => by rw [List.mem_singleton.mp hd]; exact od1.f) fun a4 f4 H4 s4 x4 F4 => ?_⟩
      have t5 := Same.trans t4 s4
      refine ⟨_, rfl, rfl, rfl, (by show 1 ≤ 1000; decide), mk_xo (nm := "InvalidLayer") (flds := ["given"]) (n := 2) (vs := [v1]) (zs := []) (ds := [d1]) rfl rfl (by decide) (.cons (Dp.same t5 _ _ dt.a) .nil) (fun d hd => by rw [List.mem_singleton.mp hd]; exact od1.f) fun a5 f5 H5 s5 x5 F5 => ?_⟩
      have t6 := Same.trans t5 s5
      refine ⟨_, rfl, rfl, rfl, (by show 0 ≤ 1000; decide), mk_xo (nm := "InvalidTable") (flds := ["layer"]) (n := 2) (vs := []) (zs := [v1]) (ds := [d1]) rfl rfl (by decide) (.cons (Dp.same t6 _ _ dt.a) .nil) (fun d hd => by rw [List.mem_singleton.mp hd]; exact od1.f) fun a6 f6 H6 s6 x6 F6 => ?_⟩
      have t7 := Same.trans t6 s6
      refine ⟨_, rfl, _, rfl, _, rfl, rfl, rfl, (by show 2 ≤ 1000; decide), mk_xo (nm := "InvalidWay") (flds := ["layer", "start", "goal"]) (n := 2) (vs := [v1, v2]) (zs := [v3]) (ds := [d1, d2, d3]) rfl rfl (by decide) (.cons (Dp.same t7 _ _ dt.a) (.cons (Dp.same t7 _ _ dt.b) (.cons (Dp.same t7 _ _ dt.c) .nil))) (fun d hd => by rcases List.mem_cons.mp hd with rfl | hd; exact od1.f; rcases List.mem_cons.mp hd with rfl | hd; exact od2.f; rw [List.mem_singleton.mp hd]; exact od3.f) fun a7 f7 H7 s7 x7 F7 => ?_⟩
      have t8 := Same.trans t7 s7
      refine ⟨_, rfl, rfl, rfl, (by show 1 ≤ 1000; decide), mk_xo (nm := "InvalidPlace") (flds := ["given"]) (n := 2) (vs := [v1]) (zs := []) (ds := [d1]) rfl rfl (by decide) (.cons (Dp.same t8 _ _ dt.a) .nil) (fun d hd => by rw [List.mem_singleton.mp hd]; exact od1.f) fun a8 f8 H8 s8 x8 F8 => ?_⟩
      have t9 := Same.trans t8 s8
      refine ⟨_, rfl, rfl, rfl, (by show 0 ≤ 1000; decide), mk_xo (nm := "InvalidPoint") (flds := ["given"]) (n := 2) (vs := []) (zs := [v1]) (ds := [d1]) rfl rfl (by decide) (.cons (Dp.same t9 _ _ dt.a) .nil) (fun d hd => by rw [List.mem_singleton.mp hd]; exact od1.f) fun a9 f9 H9 s9 x9 F9 => ?_⟩
      have t10 := Same.trans t9 s9
      refine ⟨_, rfl, rfl, rfl, (by show 1 ≤ 1000; decide), mk_xo (nm := "InvalidForm") (flds := ["given"]) (n := 2) (vs := [v1]) (zs := []) (ds := [d1]) rfl rfl (by decide) (.cons (Dp.same t10 _ _ dt.a) .nil) (fun d hd => by rw [List.mem_singleton.mp hd]; exact od1.f) fun a10 f10 H10 s10 x10 F10 => ?_⟩
      have t11 := Same.trans t10 s10
      refine ⟨_, rfl, rfl, rfl, (by show 0 ≤ 1000; decide), mk_xo (nm := "InvalidStep") (flds := ["path"]) (n := 2) (vs := []) (zs := [v1]) (ds := [d1]) rfl rfl (by decide) (.cons (Dp.same t11 _ _ dt.a) .nil) (fun d hd => by rw [List.mem_singleton.mp hd]; exact od1.f) fun a11 f11 H11 s11 x11 F11 => ?_⟩
      have t12 := Same.trans t11 s11
      refine ⟨_, rfl, rfl, rfl, (by show 1 ≤ 1000; decide), mk_xo (nm := "UnlikeEnds") (flds := ["path"]) (n := 2) (vs := [v1]) (zs := []) (ds := [d1]) rfl rfl (by decide) (.cons (Dp.same t12 _ _ dt.a) .nil) (fun d hd => by rw [List.mem_singleton.mp hd]; exact od1.f) fun a12 f12 H12 s12 x12 F12 => ?_⟩
      have t13 := Same.trans t12 s12
      refine ⟨_, rfl, rfl, rfl, (by show 0 ≤ 1000; decide), mk_xo (nm := "InvalidText") (flds := ["word"]) (n := 2) (vs := []) (zs := [v1]) (ds := [d1]) rfl rfl (by decide) (.cons (Dp.same t13 _ _ dt.a) .nil) (fun d hd => by rw [List.mem_singleton.mp hd]; exact od1.f) fun a13 f13 H13 s13 x13 F13 => ?_⟩
      have t14 := Same.trans t13 s13
      refine ⟨_, rfl, rfl, rfl, (by show 0 ≤ 1000; decide), mk_xo (nm := "InvalidFact") (flds := ["at"]) (n := 2) (vs := []) (zs := [v1]) (ds := [d1]) rfl rfl (by decide) (.cons (Dp.same t14 _ _ dt.a) .nil) (fun d hd => by rw [List.mem_singleton.mp hd]; exact od1.f) fun a14 f14 H14 s14 x14 F14 => ?_⟩
      have t15 := Same.trans t14 s14
      refine ⟨rfl, rfl, z1000, mk_xo (nm := "UnlikeScripts") (flds := []) (n := 2) (vs := []) (zs := []) (ds := []) rfl rfl (by decide) .nil (fun d hd => nomatch hd) fun a15 f15 H15 s15 x15 F15 => ?_⟩
      have t16 := Same.trans t15 s15
      refine ⟨rfl, rfl, z1000, mk_xo (nm := "UnlikeWorlds") (flds := []) (n := 2) (vs := []) (zs := []) (ds := []) rfl rfl (by decide) .nil (fun d hd => nomatch hd) fun a16 f16 H16 s16 x16 F16 => ?_⟩
      have t17 := Same.trans t16 s16
      refine ⟨rfl, rfl, z1000, mk_xo (nm := "HasTests") (flds := []) (n := 2) (vs := []) (zs := []) (ds := []) rfl rfl (by decide) .nil (fun d hd => nomatch hd) fun a17 f17 H17 s17 x17 F17 => ?_⟩
      have t18 := Same.trans t17 s17
      refine ⟨rfl, rfl, z1000, mk_xo (nm := "NoWorld") (flds := []) (n := 2) (vs := []) (zs := []) (ds := []) rfl rfl (by decide) .nil (fun d hd => nomatch hd) fun a18 f18 H18 s18 x18 F18 => ?_⟩
      have t19 := Same.trans t18 s18
      refine ⟨_, rfl, rfl, rfl, (by show 1 ≤ 1000; decide), mk_xo (nm := "InvalidCommand") (flds := ["at"]) (n := 2) (vs := [v1]) (zs := []) (ds := [d1]) rfl rfl (by decide) (.cons (Dp.same t19 _ _ dt.a) .nil) (fun d hd => by rw [List.mem_singleton.mp hd]; exact od1.f) fun a19 f19 H19 s19 x19 F19 => ?_⟩
      have t20 := Same.trans t19 s19
      refine ⟨_, rfl, rfl, rfl, (by show 1 ≤ 1000; decide), mk_xo (nm := "InvalidLimit") (flds := ["given"]) (n := 2) (vs := [v1]) (zs := []) (ds := [d1]) rfl rfl (by decide) (.cons (Dp.same t20 _ _ dt.a) .nil) (fun d hd => by rw [List.mem_singleton.mp hd]; exact od1.f) fun a20 f20 H20 s20 x20 F20 => ?_⟩
      have t21 := Same.trans t20 s20
      refine ⟨_, rfl, rfl, rfl, (by show 0 ≤ 1000; decide), mk_xo (nm := "Full") (flds := ["limit"]) (n := 2) (vs := []) (zs := [v1]) (ds := [d1]) rfl rfl (by decide) (.cons (Dp.same t21 _ _ dt.a) .nil) (fun d hd => by rw [List.mem_singleton.mp hd]; exact od1.f) fun a21 f21 H21 s21 x21 F21 => ?_⟩
      have t22 := Same.trans t21 s21
      refine ⟨_, rfl, rfl, rfl, (by show 0 ≤ 1000; decide), mk_xo (nm := "InvalidPage") (flds := ["line"]) (n := 2) (vs := []) (zs := [v1]) (ds := [d1]) rfl rfl (by decide) (.cons (Dp.same t22 _ _ dt.a) .nil) (fun d hd => by rw [List.mem_singleton.mp hd]; exact od1.f) fun a22 f22 H22 s22 x22 F22 => ?_⟩
      have t23 := Same.trans t22 s22
      refine ⟨_, rfl, _, rfl, rfl, rfl, (by show 1 ≤ 1000; decide), mk_xo (nm := "TooMany") (flds := ["subject", "most"]) (n := 2) (vs := [v1]) (zs := [v2]) (ds := [d1, d2]) rfl rfl (by decide) (.cons (Dp.same t23 _ _ dt.a) (.cons (Dp.same t23 _ _ dt.b) .nil)) (fun d hd => by rcases List.mem_cons.mp hd with rfl | hd; exact od1.f; rw [List.mem_singleton.mp hd]; exact od2.f) fun a23 f23 H23 s23 x23 F23 => ?_⟩
      have t24 := Same.trans t23 s23
      refine ⟨_, rfl, rfl, rfl, (by show 1 ≤ 1000; decide), mk_xo (nm := "UnknownName") (flds := ["name"]) (n := 2) (vs := [v1]) (zs := []) (ds := [d1]) rfl rfl (by decide) (.cons (Dp.same t24 _ _ dt.a) .nil) (fun d hd => by rw [List.mem_singleton.mp hd]; exact od1.f) fun a24 f24 H24 s24 x24 F24 => ?_⟩
      have t25 := Same.trans t24 s24
      refine ⟨_, rfl, rfl, rfl, (by show 0 ≤ 1000; decide), mk_xo (nm := "UnknownScript") (flds := ["word"]) (n := 2) (vs := []) (zs := [v1]) (ds := [d1]) rfl rfl (by decide) (.cons (Dp.same t25 _ _ dt.a) .nil) (fun d hd => by rw [List.mem_singleton.mp hd]; exact od1.f) fun a25 f25 H25 s25 x25 F25 => ?_⟩
      have t26 := Same.trans t25 s25
      refine ⟨rfl, rfl, z1000, mk_xo (nm := "NothingLeft") (flds := []) (n := 2) (vs := []) (zs := []) (ds := []) rfl rfl (by decide) .nil (fun d hd => nomatch hd) fun a26 f26 H26 s26 x26 F26 => ?_⟩
      have t27 := Same.trans t26 s26
      refine ⟨n27, fun L hL => ?_⟩
      have u26 := same_upd (o := .lst [.ref a0, .ref a1, .ref a2, .ref a3, .ref a4, .ref a5, .ref a6, .ref a7, .ref a8, .ref a9, .ref a10, .ref a11, .ref a12, .ref a13, .ref a14, .ref a15, .ref a16, .ref a17, .ref a18, .ref a19, .ref a20, .ref a21, .ref a22, .ref a23, .ref a24, .ref a25, .ref a26]) hL
      have u25 := Same.trans s26 u26
      have u24 := Same.trans s25 u25
      have u23 := Same.trans s24 u24
      have u22 := Same.trans s23 u23
      have u21 := Same.trans s22 u22
      have u20 := Same.trans s21 u21
      have u19 := Same.trans s20 u20
      have u18 := Same.trans s19 u19
      have u17 := Same.trans s18 u18
      have u16 := Same.trans s17 u17
      have u15 := Same.trans s16 u16
      have u14 := Same.trans s15 u15
      have u13 := Same.trans s14 u14
      have u12 := Same.trans s13 u13
      have u11 := Same.trans s12 u12
      have u10 := Same.trans s11 u11
      have u9 := Same.trans s10 u10
      have u8 := Same.trans s9 u9
      have u7 := Same.trans s8 u8
      have u6 := Same.trans s7 u7
      have u5 := Same.trans s6 u6
      have u4 := Same.trans s5 u5
      have u3 := Same.trans s4 u4
      have u2 := Same.trans s3 u3
      have u1 := Same.trans s2 u2
      have u0 := Same.trans s1 u1
      exact ⟨L, _, _, _, _, _, _, _, _, _, rfl, dt.same (Same.trans t27 u26), upd_same, (.cons ⟨a0, f0, rfl, x0.same u0, F0.same u0⟩ (.cons ⟨a1, f1, rfl, x1.same u1, F1.same u1⟩ (.cons ⟨a2, f2, rfl, x2.same u2, F2.same u2⟩ (.cons ⟨a3, f3, rfl, x3.same u3, F3.same u3⟩ (.cons ⟨a4, f4, rfl, x4.same u4, F4.same u4⟩ (.cons ⟨a5, f5, rfl, x5.same u5, F5.same u5⟩ (.cons ⟨a6, f6, rfl, x6.same u6, F6.same u6⟩ (.cons ⟨a7, f7, rfl, x7.same u7, F7.same u7⟩ (.cons ⟨a8, f8, rfl, x8.same u8, F8.same u8⟩ (.cons ⟨a9, f9, rfl, x9.same u9, F9.same u9⟩ (.cons ⟨a10, f10, rfl, x10.same u10, F10.same u10⟩ (.cons ⟨a11, f11, rfl, x11.same u11, F11.same u11⟩ (.cons ⟨a12, f12, rfl, x12.same u12, F12.same u12⟩ (.cons ⟨a13, f13, rfl, x13.same u13, F13.same u13⟩ (.cons ⟨a14, f14, rfl, x14.same u14, F14.same u14⟩ (.cons ⟨a15, f15, rfl, x15.same u15, F15.same u15⟩ (.cons ⟨a16, f16, rfl, x16.same u16, F16.same u16⟩ (.cons ⟨a17, f17, rfl, x17.same u17, F17.same u17⟩ (.cons ⟨a18, f18, rfl, x18.same u18, F18.same u18⟩ (.cons ⟨a19, f19, rfl, x19.same u19, F19.same u19⟩ (.cons ⟨a20, f20, rfl, x20.same u20, F20.same u20⟩ (.cons ⟨a21, f21, rfl, x21.same u21, F21.same u21⟩ (.cons ⟨a22, f22, rfl, x22.same u22, F22.same u22⟩ (.cons ⟨a23, f23, rfl, x23.same u23, F23.same u23⟩ (.cons ⟨a24, f24, rfl, x24.same u24, F24.same u24⟩ (.cons ⟨a25, f25, rfl, x25.same u25, F25.same u25⟩ (.cons ⟨a26, f26, rfl, x26.same u26, F26.same u26⟩ .nil)))))))))))))))))))))))))))⟩
    clear dt
    rintro σ G ⟨L, xs, o6, o7, o8, o9, o10, o11, o12, o13, rfl, dt, hL, er⟩
    have lx : xs.length = 27 := paired_len er
    have at_ : ∀ {H : Hp} {i : Nat} {v : V}, Same G H → xs[i]? = some v → ∃ e a fs, (infos d1 d2 d3)[i]? = some e ∧ EN[i]? = some e.1 ∧ v = .ref a ∧ XoAt H a (g e.1) fs ∧ FlOk K H fs (("code", .str e.1) :: e.2.1) := fun {H i v} s hv => by
      obtain ⟨e, he, a, fs, h1, h2, h3⟩ := paired_at er hv
      refine ⟨e, a, fs, he, ?_, h1, h2.same s, h3.same s⟩
      rw [← infos_names d1 d2 d3, List.getElem?_map, he]
      rfl
    clear at_
    -- their codes
    refine ⟨fun σ G => ∃ (M : Addr) (o7 o8 o9 o10 o11 o12 o13 : Option V), σ = [some (.ref a), some (.ref p), some v1, some v2, some v3, some (.ref L), some (.ref M), o7, o8, o9, o10, o11, o12, o13] ∧ Dt K G v1 v2 v3 d1 d2 d3 ∧ G L = some (.lst xs) ∧ Errs K g G xs (infos d1 d2 d3) ∧ G M = some (.lst (EN.map V.str)), ?_, ?_⟩
    · refine ⟨n27, fun M hM => ?_⟩
      have mM := same_upd (o := .lst (EN.map V.str)) hM
      exact ⟨M, _, _, _, _, _, _, _, rfl, dt.same mM, mM _ _ hL, er.same mM, upd_same⟩
    clear dt hL er
    rintro σ G ⟨M, o7, o8, o9, o10, o11, o12, o13, rfl, dt, hL, er, hM⟩
    refine ⟨fun σ G => ∃ (o7 o8 o9 o10 o11 o12 o13 : Option V), σ = [some (.ref a), some (.ref p), some v1, some v2, some v3, some (.ref L), some (.ref M), o7, o8, o9, o10, o11, o12, o13] ∧ Dt K G v1 v2 v3 d1 d2 d3 ∧ G L = some (.lst xs) ∧ Errs K g G xs (infos d1 d2 d3) ∧ G M = some (.lst (EN.map V.str)), ?_, ?_⟩
    · refine ⟨_, rfl, L, rfl, ⟨_, SqL.of hL⟩, fun D hD => ?_⟩
      have mD := same_upd (o := .lst []) hD
      refine lc_list (K := K) (a := L) (xs := xs) (fun i G' => Same G G' ∧ G' D = some (.lst ((EN.take i).map V.str))) ⟨mD, upd_same⟩ (fun i G' _ c => SqL.of (c.1 _ _ hL)) (fun i v G' hv c => ?_) (fun G' c => ?_)
      · obtain ⟨sm, hDa⟩ := c
        obtain ⟨e, he, a1, fs, rfl, hx, hF⟩ := paired_at (er.same sm) hv
        have hn : EN[i]? = some e.1 := by
          rw [← infos_names d1 d2 d3, List.getElem?_map, he]
          rfl
        obtain ⟨u, l, hu⟩ := hF.get (f := "code") (d := .str e.1) rfl
        cases hu
        refine ⟨rfl, _, rfl, a1, g e.1, fs, _, rfl, T.kinds.own _ (List.mem_of_getElem? hn), hx, l, _, hDa, ?_, upd_off hD sm, ?_⟩
        · rw [List.length_map, List.length_take]
          exact Nat.lt_of_le_of_lt (Nat.min_le_right _ _) (by show 27 < sizeLine; decide)
        · rw [upd_same, take_map V.str hn]
      · obtain ⟨sm, hDa⟩ := c
        rw [lx, List.take_of_length_le (show EN.length ≤ 27 from Nat.le_refl 27)] at hDa
        refine ⟨_, rfl, .ref D, .ref M, _, _, rfl, .lst (SqL.of hDa) (str_all EN), .lst (SqL.of (sm _ _ hM)) (str_all EN), codes_sm, codes_sm, _, rfl, ?_⟩
        rw [decide_eq_true rfl]
        exact iteF ⟨_, _, _, _, _, _, _, rfl, dt.same sm, sm _ _ hL, er.same sm, sm _ _ hM⟩
    clear dt hL er hM
    rintro σ G ⟨o7, o8, o9, o10, o11, o12, o13, rfl, dt, hL, er, hM⟩
    -- those with no fields
    refine ⟨fun σ G => ∃ (B : Addr) (o8 o9 o10 o11 o12 o13 : Option V), σ = [some (.ref a), some (.ref p), some v1, some v2, some v3, some (.ref L), some (.ref M), some (.ref B), o8, o9, o10, o11, o12, o13] ∧ Dt K G v1 v2 v3 d1 d2 d3 ∧ G L = some (.lst xs) ∧ Errs K g G xs (infos d1 d2 d3) ∧ G M = some (.lst (EN.map V.str)) ∧ G B = some (.lst (bareN.map V.str)), ?_, ?_⟩
    · refine ⟨five, fun B hB => ?_⟩
      have mB := same_upd (o := .lst (bareN.map V.str)) hB
      exact ⟨B, _, _, _, _, _, _, rfl, dt.same mB, mB _ _ hL, er.same mB, mB _ _ hM, upd_same⟩
    clear dt hL er hM
    rintro σ G ⟨B, o8, o9, o10, o11, o12, o13, rfl, dt, hL, er, hM, hB⟩
    -- what is due
    refine ⟨fun σ G => ∃ (D : Addr) (ys : List V) (o9 o10 o11 o12 o13 : Option V), σ = [some (.ref a), some (.ref p), some v1, some v2, some v3, some (.ref L), some (.ref M), some (.ref B), some (.ref D), o9, o10, o11, o12, o13] ∧ G D = some (.lst ys) ∧ DpAll K (wos [D] G) ys (dueA d1) ∧ Dt K (wos [D] G) v1 v2 v3 d1 d2 d3 ∧ wos [D] G L = some (.lst xs) ∧ Errs K g (wos [D] G) xs (infos d1 d2 d3), ?_, ?_⟩
    · refine ⟨_, rfl, M, rfl, ⟨_, SqL.of hM⟩, fun D hD => ?_⟩
      have mD := same_upd (o := .lst []) hD
      refine lc_list (K := K) (a := M) (xs := EN.map V.str) (fun i G' => Same G G' ∧ Acc K [] D G' ((dueA d1).take i)) ⟨mD, Acc.start⟩ (fun i G' _ c => SqL.of (c.1 _ _ hM)) (fun i v G' hv c => ?_) (fun G' c => ?_)
      · obtain ⟨sm, ac⟩ := c
        rw [List.getElem?_map] at hv
        obtain ⟨nm, hn, rfl⟩ := Option.map_eq_some_iff.mp hv
        have hd : (dueA d1)[i]? = some (if inV (.str nm) (bareN.map V.str) = true then .tuple [] else .tuple [d1]) := by
          unfold dueA
          rw [List.getElem?_map, hn]
          rfl
        have et : (dueA d1).take (i + 1) = (dueA d1).take i ++ [if inV (.str nm) (bareN.map V.str) = true then .tuple [] else .tuple [d1]] := by
          rw [List.take_add_one, hd]
          rfl
        have lti := (List.getElem?_eq_some_iff.mp hn).1
        have lti : i < 27 := lti
        have fin : ∀ {G3 : Hp} {y : V}, Same G' G3 → Dp K (wos [D] G3) y (if inV (.str nm) (bareN.map V.str) = true then .tuple [] else .tuple [d1]) → ∃ acc, G3 D = some (.lst acc) ∧ acc.length < sizeLine ∧ (Same G (upd G3 D (.lst (acc ++ [y]))) ∧ Acc K [] D (upd G3 D (.lst (acc ++ [y]))) ((dueA d1).take (i + 1))) := fun {G3 y} s3 hy => by
          obtain ⟨acc, h1, h2, h3⟩ := (ac.on (Exs.of s3) fun o z => s3 _ _ z).more hy
          refine ⟨acc, h1, ?_, upd_off hD (sm.trans s3), by rw [et]; exact h3⟩
          rw [h2, List.length_take]
          exact Nat.lt_of_le_of_lt (Nat.min_le_left _ _) (Nat.lt_of_lt_of_le lti (by decide))
        refine ⟨rfl, _, rfl, _, rfl, B, bareN.map V.str, rfl, .inl (SqL.of (sm _ _ hB)), rfl, rfl, inV (.str nm) (bareN.map V.str), rfl, ?_⟩
        obtain ⟨acc0, hD0, _⟩ := ac.ex
        cases e : inV (.str nm) (bareN.map V.str) with
        | true =>
          rw [e] at fin
          refine iteT ⟨z0, fun T0 hT0 => ?_⟩
          have mT := same_upd (o := .tup []) hT0
          exact fin mT (.tup (sqT_off (mT _ _ hD0) (SqT.of upd_same)) .nil)
        | false =>
          rw [e] at fin
          refine iteF ⟨_, rfl, one, fun T0 hT0 => ?_⟩
          have mT := same_upd (o := .tup [v1]) hT0
          exact fin mT (.tup (sqT_off (mT _ _ hD0) (SqT.of upd_same)) (.cons (Dp.same (off_new hD (sm.trans mT)) _ _ dt.a) .nil))
      · obtain ⟨sm, ac⟩ := c
        have ac : Acc K [] D G' (dueA d1) := ac
        obtain ⟨ys, h1, h2⟩ := ac.ex
        have so := off_new hD sm
        exact ⟨D, ys, _, _, _, _, _, rfl, h1, h2, dt.same so, so _ _ hL, er.same so⟩
    clear dt hL er hM hB
    rintro σ G ⟨D, ys, o9, o10, o11, o12, o13, rfl, hD, dd, dt, hL, er⟩
    refine ⟨fun σ G => ∃ (o9 o10 o11 o12 o13 : Option V), σ = [some (.ref a), some (.ref p), some v1, some v2, some v3, some (.ref L), some (.ref M), some (.ref B), some (.ref D), o9, o10, o11, o12, o13] ∧ Dp K G (.ref D) (PyData.list ((infos d1 d2 d3).map fun e => .tuple e.2.2)) ∧ G L = some (.lst xs) ∧ Errs K g G xs (infos d1 d2 d3), ?_, ?_⟩
    · have l27 : ys.length = 27 := DpAll.len dd
      refine ⟨_, rfl, _, rfl, _, rfl, three, fun T1 hT1 => ⟨_, rfl, _, rfl, two, fun T2 hT2 => ⟨two, fun T0 hT0 => ?_⟩⟩⟩
      have m1 := same_upd (o := .tup [v1, v2, v3]) hT1
      have m2 := same_upd (o := .tup [v1, v2]) hT2
      have m3 := same_upd (o := .tup [.ref T1, .ref T2]) hT0
      have m := (m1.trans m2).trans m3
      have hT1' := (m2.trans m3) _ _ (upd_same (H := G) (a := T1) (o := .tup [v1, v2, v3]))
      refine ⟨T0, _, rfl, SqT.of upd_same, rfl, _, _, rfl, _, rfl, D, ys, 7, 7, rfl, rfl, m _ _ hD, by rw [l27]; rfl, _, _, rfl, _, rfl, D, _, 23, 23, rfl, rfl, upd_same, by rw [List.length_set, l27]; rfl, rfl, ?_⟩
      have so : Same (wos [D] G) (upd (upd (upd (upd (upd G T1 (.tup [v1, v2, v3])) T2 (.tup [v1, v2])) T0 (.tup [.ref T1, .ref T2])) D (.lst (ys.set 7 (.ref T1)))) D (.lst ((ys.set 7 (.ref T1)).set 23 (.ref T2)))) := fun b o z => by
        have nb : b ≠ D := fun y => by
          rw [wos_in (by rw [y]; exact List.mem_cons_self)] at z
          cases z
        rw [upd_ne nb, upd_ne nb]
        exact m _ _ (wos_sub _ _ z)
      have nD1 : T1 ≠ D := fun z => by rw [z, hD] at hT1; cases hT1
      have nD2 : T2 ≠ D := fun z => by rw [z, m1 _ _ hD] at hT2; cases hT2
      have dt' := dt.same so
      refine ⟨_, _, _, _, _, rfl, ?_, so _ _ hL, er.same so⟩
      rw [← due_is]
      exact .lst (SqL.of upd_same) (dpAll_set (.tup (SqT.of (by rw [upd_ne nD2, upd_ne nD2]; exact m3 _ _ upd_same)) (.cons dt'.a (.cons dt'.b .nil))) 23 (dpAll_set (.tup (SqT.of (by rw [upd_ne nD1, upd_ne nD1]; exact hT1')) (.cons dt'.a (.cons dt'.b (.cons dt'.c .nil)))) 7 (DpAll.same so _ _ dd)))
    clear dt hL er hD dd
    rintro σ G ⟨o9, o10, o11, o12, o13, rfl, hDu, hL, er⟩
    -- their fields
    refine ⟨fun σ G => ∃ (o2 o3 o4 o6 o7 o8 o9 o10 o11 o12 o13 : Option V), σ = [some (.ref a), some (.ref p), o2, o3, o4, some (.ref L), o6, o7, o8, o9, o10, o11, o12, o13] ∧ G L = some (.lst xs) ∧ Errs K g G xs (infos d1 d2 d3), ?_, ?_⟩
    · refine ⟨_, rfl, L, rfl, ⟨_, SqL.of hL⟩, fun R hR => ?_⟩
      have mR := same_upd (o := .lst []) hR
      refine lc_list (K := K) (a := L) (xs := xs) (fun i G' => Same G G' ∧ Acc K [] R G' (((infos d1 d2 d3).take i).map fun e => .tuple e.2.2)) ⟨mR, Acc.start⟩ (fun i G' _ c => SqL.of (c.1 _ _ hL)) (fun i v G' hv c => ?_) (fun G' c => ?_)
      · obtain ⟨sm, ac⟩ := c
        obtain ⟨e, he, a1, fs, rfl, hx, hF⟩ := paired_at er hv
        have hn : EN[i]? = some e.1 := by
          rw [← infos_names d1 d2 d3, List.getElem?_map, he]
          rfl
        have hm := List.mem_of_getElem? hn
        obtain ⟨u, l, hu⟩ := hF.get (f := "code") (d := .str e.1) rfl
        cases hu
        obtain ⟨ys2, l1, l2⟩ := lookups hF (infos_get d1 d2 d3 he)
        refine ⟨rfl, _, rfl, a1, e.1, fs, ys2, rfl, ⟨⟨g e.1, T.kinds.own _ hm, hx.same sm⟩, l, EN_shaped _ hm⟩, l1, fun T0 G3 s3 hT => ?_⟩
        obtain ⟨acc0, hD0, _⟩ := ac.ex
        obtain ⟨acc, h1, h2, h3⟩ := (ac.on (Exs.of s3) fun o z => s3 _ _ z).more (d := .tuple e.2.2) (y := .ref T0) (.tup (sqT_off (s3 _ _ hD0) hT) (DpAll.same (off_new hR (sm.trans s3)) _ _ l2))
        refine ⟨acc, h1, ?_, upd_off hR (sm.trans s3), by rw [take_map (fun e => PyData.tuple e.2.2) he]; exact h3⟩
        rw [h2, List.length_map, List.length_take]
        exact Nat.lt_of_le_of_lt (Nat.min_le_right _ _) (by show 27 < sizeLine; decide)
      · obtain ⟨sm, ac⟩ := c
        rw [lx, List.take_of_length_le (show (infos d1 d2 d3).length ≤ 27 from Nat.le_refl 27)] at ac
        have hr := Dp.same wos_sub _ _ (ac.done (fun z => nomatch z))
        refine ⟨_, rfl, .ref R, .ref D, _, _, rfl, hr, Dp.same sm _ _ hDu, due_sm od1 od2 od3, due_sm od1 od2 od3, _, rfl, ?_⟩
        rw [decide_eq_true rfl]
        exact iteF ⟨_, _, _, _, _, _, _, _, _, _, _, rfl, sm _ _ hL, er.same sm⟩
    clear hL er hDu
    rintro σ G ⟨o2, o3, o4, o6, o7, o8, o9, o10, o11, o12, o13, rfl, hL, er⟩
    have nms : ∀ {i : Nat} {v : V}, xs[i]? = some v → ∃ nm a fs, EN[i]? = some nm ∧ v = .ref a ∧ XoAt G a (g nm) fs := fun {i v} hv => by
      obtain ⟨e, he, a1, fs, h1, hx, _⟩ := paired_at er hv
      refine ⟨e.1, a1, fs, ?_, h1, hx⟩
      rw [← infos_names d1 d2 d3, List.getElem?_map, he]
      rfl
    -- their classes
    refine ⟨fun σ G => ∃ (o2 o3 o4 o6 o7 o8 o9 o10 o11 o12 o13 : Option V), σ = [some (.ref a), some (.ref p), o2, o3, o4, some (.ref L), o6, o7, o8, o9, o10, o11, o12, o13] ∧ G L = some (.lst xs) ∧ Errs K g G xs (infos d1 d2 d3), ?_, ?_⟩
    · refine ⟨_, rfl, L, rfl, ⟨_, SqL.of hL⟩, fun R hR => ?_⟩
      have mR := same_upd (o := .lst []) hR
      refine lc_list (K := K) (a := L) (xs := xs) (fun i G' => Same G G' ∧ Acc K [] R G' ((List.range i).map rowD)) ⟨mR, Acc.start⟩ (fun i G' _ c => SqL.of (c.1 _ _ hL)) (fun i v G' hv c => ?_) (fun G1' c => ?_)
      · obtain ⟨sm, ac⟩ := c
        obtain ⟨nm, a1, fs, hn, rfl, hx⟩ := nms hv
        have lti : i < 27 := (List.getElem?_eq_some_iff.mp hn).1
        refine ⟨rfl, _, rfl, a1, i, nm, fs, rfl, hn, hx.same sm, fun A1 hA1 => ?_⟩
        have m1 := same_upd (o := .lst (rowA i)) hA1
        refine ⟨_, rfl, a1, i, nm, fs, rfl, hn, hx.same (sm.trans m1), fun A2 hA2 => ?_⟩
        have m2 := same_upd (o := .lst (rowB i)) hA2
        refine ⟨A1, A2, _, _, rfl, rfl, m2 _ _ upd_same, upd_same, by show 27 ≤ sizeLine; decide, fun A3 hA3 => ?_⟩
        have m3 := same_upd (o := .lst (rowA i ++ rowB i)) hA3
        have m := (m1.trans m2).trans m3
        obtain ⟨acc0, hD0, _⟩ := ac.ex
        have nA : A3 ≠ R := fun z => by rw [z, (m1.trans m2) _ _ hD0] at hA3; cases hA3
        obtain ⟨acc, h1, h2, h3⟩ := (ac.on (Exs.of m) fun o z => m _ _ z).more (d := rowD i) (y := .ref A3) (.lst (SqL.of (by rw [wos_out (fun y => nA (List.mem_singleton.mp y))]; exact upd_same)) row_dp)
        refine ⟨acc, h1, ?_, upd_off hR (sm.trans m), by rw [range_map]; exact h3⟩
        rw [h2, List.length_map, List.length_range]
        exact Nat.lt_of_lt_of_le lti (by decide)
      · obtain ⟨sm, ac⟩ := c
        rw [lx] at ac
        have hsq : Dp K G1' (.ref R) squareD := Dp.same wos_sub _ _ (ac.done (fun z => nomatch z))
        clear ac
        refine ⟨27, rfl, by decide, by decide, fun R2 hR2 => ?_⟩
        have mR2 := same_upd (o := .lst []) hR2
        refine lc_range (lo := 0) (n := 27) (fun i G2 => Same G1' G2 ∧ Acc K [] R2 G2 ((List.range i).map rowD)) ⟨mR2, Acc.start⟩ ?_ ?_
        · rintro i G2 hi ⟨sm2, ac⟩
          refine ⟨rfl, 27, rfl, by decide, by decide, fun R3 hR3 => ?_⟩
          have mR3 := same_upd (o := .lst []) hR3
          refine lc_range (lo := 0) (n := 27) (fun j G3 => Same G2 G3 ∧ Acc K [] R3 G3 ((List.range j).map fun j => PyData.bool (decide (i = j)))) ⟨mR3, Acc.start⟩ ?_ ?_
          · rintro j G3 hj ⟨sm3, ac3⟩
            have e : decide (V.int (0 + (i : Int)) = V.int (0 + (j : Int))) = decide (i = j) := by
              by_cases z : i = j
              · rw [decide_eq_true z, decide_eq_true (by rw [z])]
              · rw [decide_eq_false z, decide_eq_false (fun y => z (by injection y with y; omega))]
            obtain ⟨acc, h1, h2, h3⟩ := ac3.more (d := .bool (decide (i = j))) (y := .bl (decide (V.int (0 + (i : Int)) = V.int (0 + (j : Int))))) (by rw [e]; exact .bl _)
            refine ⟨rfl, _, rfl, _, rfl, rfl, acc, h1, ?_, upd_off hR3 sm3, by rw [range_map]; exact h3⟩
            rw [h2, List.length_map, List.length_range]
            exact Nat.lt_of_lt_of_le hj (by decide)
          · rintro G3 ⟨sm3, ac3⟩
            have hrow : Dp K (wos [R2] G3) (.ref R3) (rowD i) := by
              obtain ⟨acc3, e1, e2⟩ := ac3.ex
              obtain ⟨acc0, hD0, _⟩ := ac.ex
              have n3 : R3 ≠ R2 := fun z => by rw [z, hD0] at hR3; cases hR3
              refine .lst (SqL.of (by rw [wos_out (fun y => n3 (List.mem_singleton.mp y))]; exact e1)) ?_
              rw [row_eq]
              have key : ∀ (n : Nat) (acc : List V), DpAll K (wos [R3] G3) acc ((List.range n).map fun j => PyData.bool (decide (i = j))) → DpAll K (wos [R2] G3) acc ((List.range n).map fun j => PyData.bool (decide (i = j))) := fun n acc h => by
                have : ∀ (ds : List PyData) (acc : List V), (∀ d ∈ ds, ∃ b, d = .bool b) → DpAll K (wos [R3] G3) acc ds → DpAll K (wos [R2] G3) acc ds := by
                  intro ds
                  induction ds with
                  | nil => intro acc _ h; cases h; exact .nil
                  | cons d ds ih =>
                    intro acc hb h
                    cases h with
                    | cons x t =>
                      obtain ⟨b, rfl⟩ := hb d List.mem_cons_self
                      cases x
                      exact .cons (.bl b) (ih _ (fun d hd => hb d (List.mem_cons_of_mem _ hd)) t)
                refine this _ _ (fun d hd => ?_) h
                obtain ⟨j, _, rfl⟩ := List.mem_map.mp hd
                exact ⟨_, rfl⟩
              exact key 27 _ e2
            obtain ⟨acc, h1, h2, h3⟩ := (ac.on (Exs.of sm3) fun o z => sm3 _ _ z).more (d := rowD i) (y := .ref R3) hrow
            refine ⟨acc, h1, ?_, upd_off hR2 (sm2.trans sm3), by rw [range_map]; exact h3⟩
            rw [h2, List.length_map, List.length_range]
            exact Nat.lt_of_lt_of_le hi (by decide)
        · rintro G2 ⟨sm2, ac⟩
          have hsq2 : Dp K G2 (.ref R2) squareD := Dp.same wos_sub _ _ (ac.done (fun z => nomatch z))
          refine ⟨squareD, squareD, Dp.same sm2 _ _ hsq, hsq2, square_shaped, square_shaped, _, rfl, ?_⟩
          rw [square_eq]
          exact iteF ⟨_, _, _, _, _, _, _, _, _, _, _, rfl, (sm.trans sm2) _ _ hL, er.same (sm.trans sm2)⟩
    clear hL er nms
    rintro σ G ⟨o2, o3, o4, o6, o7, o8, o9, o10, o11, o12, o13, rfl, hL, er⟩
    have nms : ∀ {i : Nat} {v : V}, xs[i]? = some v → ∃ nm a fs, EN[i]? = some nm ∧ v = .ref a ∧ XoAt G a (g nm) fs := fun {i v} hv => by
      obtain ⟨e, he, a1, fs, h1, hx, _⟩ := paired_at er hv
      refine ⟨e.1, a1, fs, ?_, h1, hx⟩
      rw [← infos_names d1 d2 d3, List.getElem?_map, he]
      rfl
    -- their kinds
    refine ⟨fun σ G => ∃ (v9 : V) (o2 o3 o4 o5 o6 o7 o8 o10 o11 o12 o13 : Option V), σ = [some (.ref a), some (.ref p), o2, o3, o4, o5, o6, o7, o8, some v9, o10, o11, o12, o13] ∧ Dp K G v9 kindsD, ?_, ?_⟩
    · refine ⟨_, rfl, L, rfl, ⟨_, SqL.of hL⟩, fun R hR => ?_⟩
      have mR := same_upd (o := .lst []) hR
      refine lc_list (K := K) (a := L) (xs := xs) (fun i G' => Same G G' ∧ Acc K [] R G' ((List.range i).map kindD)) ⟨mR, Acc.start⟩ (fun i G' _ c => SqL.of (c.1 _ _ hL)) (fun i v G' hv c => ?_) (fun G' c => ?_)
      · obtain ⟨sm, ac⟩ := c
        obtain ⟨nm, a1, fs, hn, rfl, hx⟩ := nms hv
        have lti : i < 27 := (List.getElem?_eq_some_iff.mp hn).1
        have cl := T.kinds.cls _ (List.mem_of_getElem? hn)
        have hx' := hx.same sm
        refine ⟨rfl, _, rfl, a1, g nm, fs, nm, .ref cM, .ref cM, _, rfl, hx', cl, .own _, T.kM i _ hn, ?_⟩
        refine ⟨_, rfl, a1, g nm, fs, nm, .ty "ValueError", .type "ValueError", _, rfl, hx', cl, .ty _, T.kV i _ hn, ?_⟩
        refine ⟨_, rfl, a1, g nm, fs, nm, .ref cI, .ref cI, _, rfl, hx', cl, .own _, T.kI i _ hn, ?_⟩
        refine ⟨_, rfl, a1, g nm, fs, nm, .ty "LookupError", .type "LookupError", _, rfl, hx', cl, .ty _, T.kL i _ hn, ?_⟩
        refine ⟨_, rfl, a1, g nm, fs, nm, .ty "IndexError", .type "IndexError", _, rfl, hx', cl, .ty _, T.kX i _ hn, ?_⟩
        refine ⟨five, fun A3 hA3 => ?_⟩
        have m := same_upd (o := .lst [V.bl (decide (i < 24)), V.bl (decide (i < 24)), V.bl (decide (24 ≤ i ∧ i < 26)), V.bl (decide (24 ≤ i)), V.bl (decide (i = 26))]) hA3
        obtain ⟨acc0, hD0, _⟩ := ac.ex
        have nA : A3 ≠ R := fun z => by rw [z, hD0] at hA3; cases hA3
        obtain ⟨acc, h1, h2, h3⟩ := (ac.on (Exs.of m) fun o z => m _ _ z).more (d := kindD i) (y := .ref A3) (.lst (SqL.of (by rw [wos_out (fun y => nA (List.mem_singleton.mp y))]; exact upd_same)) (.cons (.bl _) (.cons (.bl _) (.cons (.bl _) (.cons (.bl _) (.cons (.bl _) .nil))))))
        refine ⟨acc, h1, ?_, upd_off hR (sm.trans m), by rw [range_map]; exact h3⟩
        rw [h2, List.length_map, List.length_range]
        exact Nat.lt_of_lt_of_le lti (by decide)
      · obtain ⟨sm, ac⟩ := c
        rw [lx] at ac
        exact ⟨.ref R, _, _, _, _, _, _, _, _, _, _, _, rfl, Dp.same wos_sub _ _ (ac.done (fun z => nomatch z))⟩
    clear hL er nms
    rintro σ G ⟨v9, o2, o3, o4, o5, o6, o7, o8, o10, o11, o12, o13, rfl, h9⟩
    refine ⟨_, rfl, five, fun A1 hA1 => ⟨one, fun A2 hA2 => ⟨A2, 24, _, rfl, rfl, upd_same, by omega, by omega, by show 1 * 24 ≤ sizeLine; decide, fun A3 hA3 => ?_⟩⟩⟩
    refine ⟨five, fun B1 hB1 => ⟨one, fun B2 hB2 => ⟨B2, 2, _, rfl, rfl, upd_same, by omega, by omega, by show 1 * 2 ≤ sizeLine; decide, fun B3 hB3 => ?_⟩⟩⟩
    have mA1 := same_upd (o := .lst [.bl true, .bl true, .bl false, .bl false, .bl false]) hA1
    have mA2 := same_upd (o := .lst [.ref A1]) hA2
    have mA3 := same_upd (o := .lst (List.replicate (24 : Int).toNat [V.ref A1]).flatten) hA3
    have mB1 := same_upd (o := .lst [.bl false, .bl false, .bl true, .bl true, .bl false]) hB1
    have mB2 := same_upd (o := .lst [.ref B1]) hB2
    have mB3 := same_upd (o := .lst (List.replicate (2 : Int).toNat [V.ref B1]).flatten) hB3
    refine ⟨A3, B3, _, _, rfl, rfl, ((mB1.trans mB2).trans mB3) _ _ upd_same, upd_same, by rw [rep_flat, rep_flat, List.length_replicate, List.length_replicate]; decide, fun C1 hC1 => ?_⟩
    have mC1 := same_upd (o := .lst ((List.replicate (24 : Int).toNat [V.ref A1]).flatten ++ (List.replicate (2 : Int).toNat [V.ref B1]).flatten)) hC1
    refine ⟨five, fun D1 hD1 => ⟨one, fun D2 hD2 => ?_⟩⟩
    have mD1 := same_upd (o := .lst [.bl false, .bl false, .bl false, .bl true, .bl true]) hD1
    have mD2 := same_upd (o := .lst [.ref D1]) hD2
    refine ⟨C1, D2, _, _, rfl, rfl, (mD1.trans mD2) _ _ upd_same, upd_same, by rw [rep_flat, rep_flat, List.length_append, List.length_replicate, List.length_replicate]; show 24 + 2 + 1 ≤ sizeLine; decide, fun E1 hE1 => ?_⟩
    have mE := same_upd (o := .lst (((List.replicate (24 : Int).toNat [V.ref A1]).flatten ++ (List.replicate (2 : Int).toNat [V.ref B1]).flatten) ++ [.ref D1])) hE1
    have b5 : ∀ {H : Hp} {x1 x2 x3 x4 x5 : Bool}, DpAll K H [.bl x1, .bl x2, .bl x3, .bl x4, .bl x5] [.bool x1, .bool x2, .bool x3, .bool x4, .bool x5] := .cons (.bl _) (.cons (.bl _) (.cons (.bl _) (.cons (.bl _) (.cons (.bl _) .nil))))
    have tD := mD2.trans mE
    have tB := mC1.trans (mD1.trans tD)
    have tB1 := mB2.trans (mB3.trans tB)
    have tA1 := mA2.trans (mA3.trans (mB1.trans tB1))
    refine ⟨kindsD, kindsE, Dp.same (mA1.trans tA1) _ _ h9, .lst (SqL.of upd_same) ?_, kinds_shaped.1, kinds_shaped.2, ?_⟩
    · rw [rep_flat, rep_flat]
      exact dpAll_app (.cons (.lst (SqL.of (tD _ _ upd_same)) b5) .nil) (dpAll_app (rep_dp (.lst (SqL.of (tB1 _ _ upd_same)) b5) 2) (rep_dp (.lst (SqL.of (tA1 _ _ upd_same)) b5) 24))
    · rw [kinds_eq]
      exact k _
end
end Lw


set_option maxRecDepth 100000
namespace Lw
open PySem PySem.Spec PyProof.Rows L2 VG
section
variable {P : Program} {w : World} {K : PySem.W.Frag} {mg : Str → Option Value} {base : Heap}
/-- what copied asks of the names of the top -/
structure NmC (mg : Str → Option Value) : Prop where
  isi : mg "isinstance" = none
  list : mg "list" = none
  tup : mg "tuple" = none
theorem scCopied : FnScope ["value", "item"] ["value"] (defScope s_copied) := ⟨rfl, rfl, rfl, by decide +kernel, rfl, by decide +kernel, by decide +kernel⟩
theorem copied_step {n k : Nat} {f : Addr} {fd : FuncData} (F : Fun K "copied" "copied" s_copied f fd) (T : NmC mg) (mC : mg "copied" = some (.ref f)) (bC : Binds K fd ["value"] []) (G : FnOk P w K mg base CX0 k f fd ["value"] (spPrev K n)) :
    FnOk P w K mg base CX0 (k + 1) f fd ["value"] (spCopy K n) := by
  refine F.ok scCopied (fun vs H Q E h => ?_) (fun cdv A outer s H vs Q E hr h => ?_)
  · obtain ⟨x, d, rfl, _⟩ := h
    rfl
  · obtain ⟨x, d, rfl, hx, hf, q⟩ := h
    have nd := scCopied.nd
    refine ⟨_, pss_cons (ps_if (pt_val (pe_callB call_isi (by rfl) T.isi (by decide +kernel) (pa_cons (pv 0) (pa_cons (pe_bltn (v := .ty "list") (by rfl) T.list (by decide +kernel) rfl) pa_nil))))
        (pss_one (ps_ret (pe_lc (own := [("item", 1)]) (g := gName 1) (tt := tYes) rfl nd (pi_list (pv 0)) (blkOk_by (own := [("item", 1)]) (N := ["value", "item"]) (sc := defScope s_copied) (by decide +kernel)) (fun _ _ _ _ _ => pg_name (i := 1) nd rfl (Or.inl rfl)) (fun _ _ _ _ _ => pts_nil)
          (fun _ _ _ _ _ => pe_call G hr (by rfl) mC F.kp bC .nil pass0 (pa_cons (pv 1) pa_nil))))) pss_nil)
      (pss_cons (ps_if (pt_val (pe_callB call_isi (by rfl) T.isi (by decide +kernel) (pa_cons (pv 0) (pa_cons (pe_bltn (v := .ty "tuple") (by rfl) T.tup (by decide +kernel) rfl) pa_nil))))
        (pss_one (ps_ret (pe_callTy call_tuple_of (by rfl) T.tup (by decide +kernel) (pa_cons (pe_lc (own := [("item", 1)]) (g := gName 1) (tt := tYes) rfl nd (pi_tup (pv 0)) (blkOk_by (own := [("item", 1)]) (N := ["value", "item"]) (sc := defScope s_copied) (by decide +kernel)) (fun _ _ _ _ _ => pg_name (i := 1) nd rfl (Or.inl rfl)) (fun _ _ _ _ _ => pts_nil)
          (fun _ _ _ _ _ => pe_call G hr (by rfl) mC F.kp bC .nil pass0 (pa_cons (pv 1) pa_nil))) pa_nil)))) pss_nil)
      (pss_one (ps_ret (pv 0)))), ?_⟩
    cases hx with
    | non => exact ⟨_, rfl, _, _, _, _, false, rfl, .ty "list", .base .non, kit_ty (by decide +kernel), _, rfl, iteF ⟨_, rfl, _, _, _, _, false, rfl, .ty "tuple", .base .non, kit_ty (by decide +kernel), _, rfl, iteF ⟨_, rfl, q _ H (Same.refl H) .non⟩⟩⟩
    | bl b => exact ⟨_, rfl, _, _, _, _, false, rfl, .ty "list", .base (.bl b), kit_ty (by decide +kernel), _, rfl, iteF ⟨_, rfl, _, _, _, _, false, rfl, .ty "tuple", .base (.bl b), kit_ty (by decide +kernel), _, rfl, iteF ⟨_, rfl, q _ H (Same.refl H) (.bl b)⟩⟩⟩
    | int i => exact ⟨_, rfl, _, _, _, _, false, rfl, .ty "list", .base (.int i), kit_ty (by decide +kernel), _, rfl, iteF ⟨_, rfl, _, _, _, _, false, rfl, .ty "tuple", .base (.int i), kit_ty (by decide +kernel), _, rfl, iteF ⟨_, rfl, q _ H (Same.refl H) (.int i)⟩⟩⟩
    | str z => exact ⟨_, rfl, _, _, _, _, false, rfl, .ty "list", .base (.str z), kit_ty (by decide +kernel), _, rfl, iteF ⟨_, rfl, _, _, _, _, false, rfl, .ty "tuple", .base (.str z), kit_ty (by decide +kernel), _, rfl, iteF ⟨_, rfl, q _ H (Same.refl H) (.str z)⟩⟩⟩
    | @lst a xs ds hs hd =>
      refine ⟨_, rfl, _, _, _, _, true, rfl, .ty "list", tyx_list hs, kit_ty (by decide +kernel), _, rfl, iteT ?_⟩
      obtain ⟨m, rfl, hw, hl⟩ : ∃ m, n = m + 1 ∧ ds.length ≤ 1000 ∧ ∀ d ∈ ds, fit m d = true := by
        cases n with
        | zero => cases hf
        | succ m =>
          obtain ⟨h1, h2⟩ := Bool.and_eq_true_iff.mp (show (decide (ds.length ≤ 1000) && ds.all (fit m)) = true from hf)
          exact ⟨m, rfl, of_decide_eq_true h1, List.all_eq_true.mp h2⟩
      refine ⟨_, rfl, a, rfl, ⟨_, hs⟩, fun D hD => lc_list (K := K) (a := a) (xs := xs) (Copying K H D ds) (Copying.start hD) (fun i G _ c => c.same.seq hs) (fun i y G hy c => ?_) (fun G c => ?_)⟩
      · obtain ⟨e, he, hye⟩ := DpAll.at' hd hy
        refine ⟨rfl, y, rfl, y, e, rfl, Dp.same c.same e y hye, hl e (List.mem_of_getElem? he), fun y' G' sm hn => ?_⟩
        obtain ⟨acc, e1, e2, e3⟩ := c.more hD he sm hn
        have lt : i < ds.length := (List.getElem?_eq_some_iff.mp he).1
        exact ⟨acc, e1, by rw [e2]; exact Nat.lt_of_lt_of_le (Nat.lt_of_lt_of_le lt hw) (by decide), e3⟩
      · rw [DpAll.len hd] at c
        obtain ⟨acc, e1, e2⟩ := c.all hD
        exact q _ G c.same (.lst (SqL.of (by rw [newer_at hD]; exact e1)) e2)
    | @tup a xs ds hs hd =>
      refine ⟨_, rfl, _, _, _, _, false, rfl, .ty "list", tyx_tup hs, kit_ty (by decide +kernel), _, rfl, iteF ⟨_, rfl, _, _, _, _, true, rfl, .ty "tuple", tyx_tup hs, kit_ty (by decide +kernel), _, rfl, iteT ?_⟩⟩
      obtain ⟨m, rfl, hw, hl⟩ : ∃ m, n = m + 1 ∧ ds.length ≤ 1000 ∧ ∀ d ∈ ds, fit m d = true := by
        cases n with
        | zero => cases hf
        | succ m =>
          obtain ⟨h1, h2⟩ := Bool.and_eq_true_iff.mp (show (decide (ds.length ≤ 1000) && ds.all (fit m)) = true from hf)
          exact ⟨m, rfl, of_decide_eq_true h1, List.all_eq_true.mp h2⟩
      refine ⟨_, rfl, a, rfl, ⟨_, hs⟩, fun D hD => lc_tup (K := K) (a := a) (xs := xs) (Copying K H D ds) (Copying.start hD) (fun i G _ c => Same.tup c.same hs) (fun i y G hy c => ?_) (fun G c => ?_)⟩
      · obtain ⟨e, he, hye⟩ := DpAll.at' hd hy
        refine ⟨rfl, y, rfl, y, e, rfl, Dp.same c.same e y hye, hl e (List.mem_of_getElem? he), fun y' G' sm hn => ?_⟩
        obtain ⟨acc, e1, e2, e3⟩ := c.more hD he sm hn
        have lt : i < ds.length := (List.getElem?_eq_some_iff.mp he).1
        exact ⟨acc, e1, by rw [e2]; exact Nat.lt_of_lt_of_le (Nat.lt_of_lt_of_le lt hw) (by decide), e3⟩
      · rw [DpAll.len hd] at c
        obtain ⟨acc, e1, e2⟩ := c.all hD
        refine ⟨D, acc, rfl, .inl ⟨SqL.of e1, fun l hl => ?_⟩⟩
        have sm := same_upd (o := .tup acc) hl
        have hl0 : H l = none := c.same.free hl
        refine q _ _ (c.same.trans sm) (.tup (SqT.of (by rw [newer_at hl0]; exact upd_same)) (DpAll.same (newer_mono (fun b z => z) fun b z o e => sm b o e) _ _ e2))
/-- copied, for data of any depth -/
theorem ok_copied {f : Addr} {fd : FuncData} (F : Fun K "copied" "copied" s_copied f fd) (T : NmC mg) (mC : mg "copied" = some (.ref f)) (bC : Binds K fd ["value"] []) : ∀ n, FnOk P w K mg base CX0 (n + 1) f fd ["value"] (spCopy K n)
  | 0 => copied_step F T mC bC ⟨fun _ _ _ _ h => False.elim h, fun _ _ _ _ _ _ _ _ _ _ _ _ _ h => False.elim h⟩
  | n + 1 => copied_step F T mC bC (ok_copied F T mC bC n)
end
end Lw

set_option maxRecDepth 100000
set_option maxHeartbeats 0
namespace Lw
open PySem PySem.Spec PyProof.Rows L2 VG
abbrev R : PySem.W.OpenRow := PySem.W.OpenLaw.row PySem.Challenge.rw_missingmiles_k01_errors_by_themselves
def glb (x : Str) (st : Stmt) (dfl : List He.Dv) : He.DefD := ⟨(x, none), x, x, defArgs st, defBody st, defScope st, dfl, []⟩
def mth (C m : Str) (st : Stmt) : He.DefD := ⟨(C, some m), m, C ++ "." ++ m, defArgs st, defBody st, defScope st, [], []⟩
def clsBody : Stmt → List Stmt
  | .ClassDef (body := b) .. => b
  | _ => []
def iniInvalidRatio : Stmt := (clsBody s_InvalidRatio).getD 0 (.Pass ⟨0, 0, 0, 0⟩)
def iniInvalidNumber : Stmt := (clsBody s_InvalidNumber).getD 0 (.Pass ⟨0, 0, 0, 0⟩)
def iniInvalidName : Stmt := (clsBody s_InvalidName).getD 0 (.Pass ⟨0, 0, 0, 0⟩)
def iniDuplicateName : Stmt := (clsBody s_DuplicateName).getD 0 (.Pass ⟨0, 0, 0, 0⟩)
def iniInvalidRow : Stmt := (clsBody s_InvalidRow).getD 0 (.Pass ⟨0, 0, 0, 0⟩)
def iniInvalidLayer : Stmt := (clsBody s_InvalidLayer).getD 0 (.Pass ⟨0, 0, 0, 0⟩)
def iniInvalidTable : Stmt := (clsBody s_InvalidTable).getD 0 (.Pass ⟨0, 0, 0, 0⟩)
def iniInvalidWay : Stmt := (clsBody s_InvalidWay).getD 0 (.Pass ⟨0, 0, 0, 0⟩)
def iniInvalidPlace : Stmt := (clsBody s_InvalidPlace).getD 0 (.Pass ⟨0, 0, 0, 0⟩)
def iniInvalidPoint : Stmt := (clsBody s_InvalidPoint).getD 0 (.Pass ⟨0, 0, 0, 0⟩)
def iniInvalidForm : Stmt := (clsBody s_InvalidForm).getD 0 (.Pass ⟨0, 0, 0, 0⟩)
def iniInvalidStep : Stmt := (clsBody s_InvalidStep).getD 0 (.Pass ⟨0, 0, 0, 0⟩)
def iniUnlikeEnds : Stmt := (clsBody s_UnlikeEnds).getD 0 (.Pass ⟨0, 0, 0, 0⟩)
def iniInvalidText : Stmt := (clsBody s_InvalidText).getD 0 (.Pass ⟨0, 0, 0, 0⟩)
def iniInvalidFact : Stmt := (clsBody s_InvalidFact).getD 0 (.Pass ⟨0, 0, 0, 0⟩)
def iniUnlikeScripts : Stmt := (clsBody s_UnlikeScripts).getD 0 (.Pass ⟨0, 0, 0, 0⟩)
def iniUnlikeWorlds : Stmt := (clsBody s_UnlikeWorlds).getD 0 (.Pass ⟨0, 0, 0, 0⟩)
def iniHasTests : Stmt := (clsBody s_HasTests).getD 0 (.Pass ⟨0, 0, 0, 0⟩)
def iniNoWorld : Stmt := (clsBody s_NoWorld).getD 0 (.Pass ⟨0, 0, 0, 0⟩)
def iniInvalidCommand : Stmt := (clsBody s_InvalidCommand).getD 0 (.Pass ⟨0, 0, 0, 0⟩)
def iniInvalidLimit : Stmt := (clsBody s_InvalidLimit).getD 0 (.Pass ⟨0, 0, 0, 0⟩)
def iniFull : Stmt := (clsBody s_Full).getD 0 (.Pass ⟨0, 0, 0, 0⟩)
def iniInvalidPage : Stmt := (clsBody s_InvalidPage).getD 0 (.Pass ⟨0, 0, 0, 0⟩)
def iniTooMany : Stmt := (clsBody s_TooMany).getD 0 (.Pass ⟨0, 0, 0, 0⟩)
def iniUnknownName : Stmt := (clsBody s_UnknownName).getD 0 (.Pass ⟨0, 0, 0, 0⟩)
def iniUnknownScript : Stmt := (clsBody s_UnknownScript).getD 0 (.Pass ⟨0, 0, 0, 0⟩)
def iniNothingLeft : Stmt := (clsBody s_NothingLeft).getD 0 (.Pass ⟨0, 0, 0, 0⟩)
/-- each of the own errors beside each -/
def kindB (K : PySem.W.Frag) : Bool := (List.range 27).all fun i => (List.range 27).all fun j => decide (PySem.W.kitOne K (.ref (He.ga K (EN.getD i ""))) (.ref (He.ga K (EN.getD j ""))) = some (decide (i = j)))
def kind1 (K : PySem.W.Frag) (c : Value) (f : Nat → Bool) : Bool := (List.range 27).all fun i => decide (PySem.W.kitOne K (.ref (He.ga K (EN.getD i ""))) c = some (f i))
theorem EN_get {i : Nat} {a : Str} (h : EN[i]? = some a) : i < 27 ∧ EN.getD i "" = a := ⟨(List.getElem?_eq_some_iff.mp h).1, by rw [List.getD_eq_getElem?_getD, h]; rfl⟩
theorem kindB_ok {K : PySem.W.Frag} (h : kindB K = true) {i j : Nat} {a b : Str} (hi : EN[i]? = some a) (hj : EN[j]? = some b) : PySem.W.kitOne K (.ref (He.ga K a)) (.ref (He.ga K b)) = some (decide (i = j)) := by
  obtain ⟨i1, i2⟩ := EN_get hi
  obtain ⟨j1, j2⟩ := EN_get hj
  have z := of_decide_eq_true (List.all_eq_true.mp (List.all_eq_true.mp h i (List.mem_range.mpr i1)) j (List.mem_range.mpr j1))
  rw [i2, j2] at z
  exact z
theorem kind1_ok {K : PySem.W.Frag} {c : Value} {f : Nat → Bool} (h : kind1 K c f = true) {i : Nat} {a : Str} (hi : EN[i]? = some a) : PySem.W.kitOne K (.ref (He.ga K a)) c = some (f i) := by
  obtain ⟨i1, i2⟩ := EN_get hi
  have z := of_decide_eq_true (List.all_eq_true.mp h i (List.mem_range.mpr i1))
  rw [i2] at z
  exact z
def fns : List He.DefD := [glb "law" sLaw [],
  glb "_law_source" sSource [],
  glb "_law_draw" sDraw [],
  glb "_law_of" sOf [],
  glb "_law_same" sSame [],
  glb "_law_fields" s__law_fields [],
  glb "_law_first_classes" s__law_first_classes [],
  glb "_law_last_classes" s__law_last_classes [],
  glb "copied" s_copied []]
def fas : List He.Fa := [.glo "law", .glo "_law_source", .glo "_law_draw", .glo "_law_of", .glo "_law_same", .glo "_law_fields", .glo "_law_first_classes", .glo "_law_last_classes", .glo "copied", .glo "InvalidRatio", .glo "InvalidNumber", .glo "InvalidName", .glo "DuplicateName", .glo "InvalidRow", .glo "InvalidLayer", .glo "InvalidTable", .glo "InvalidWay", .glo "InvalidPlace", .glo "InvalidPoint", .glo "InvalidForm", .glo "InvalidStep", .glo "UnlikeEnds", .glo "InvalidText", .glo "InvalidFact", .glo "UnlikeScripts", .glo "UnlikeWorlds", .glo "HasTests", .glo "NoWorld", .glo "InvalidCommand", .glo "InvalidLimit", .glo "Full", .glo "InvalidPage", .glo "TooMany", .glo "UnknownName", .glo "UnknownScript", .glo "NothingLeft", .glo "MilesError", .glo "Missing", .free "int", .free "len", .free "list", .free "repr", .free "isinstance", .free "range", .free "tuple", .free "super", .free "ValueError", .free "LookupError", .free "IndexError"]
def more (K : PySem.W.Frag) : Bool := errG K "InvalidRatio" "ValueError.__new__" veTl && (iniG K "InvalidRatio" R.prog.main.file "ValueError" "ValueError.__init__" && (errG K "InvalidNumber" "ValueError.__new__" veTl && (iniG K "InvalidNumber" R.prog.main.file "ValueError" "ValueError.__init__" && (errG K "InvalidName" "ValueError.__new__" veTl && (iniG K "InvalidName" R.prog.main.file "ValueError" "ValueError.__init__" && (errG K "DuplicateName" "ValueError.__new__" veTl && (iniG K "DuplicateName" R.prog.main.file "ValueError" "ValueError.__init__" && (errG K "InvalidRow" "ValueError.__new__" veTl && (iniG K "InvalidRow" R.prog.main.file "ValueError" "ValueError.__init__" && (errG K "InvalidLayer" "ValueError.__new__" veTl && (iniG K "InvalidLayer" R.prog.main.file "ValueError" "ValueError.__init__" && (errG K "InvalidTable" "ValueError.__new__" veTl && (iniG K "InvalidTable" R.prog.main.file "ValueError" "ValueError.__init__" && (errG K "InvalidWay" "ValueError.__new__" veTl && (iniG K "InvalidWay" R.prog.main.file "ValueError" "ValueError.__init__" && (errG K "InvalidPlace" "ValueError.__new__" veTl && (iniG K "InvalidPlace" R.prog.main.file "ValueError" "ValueError.__init__" && (errG K "InvalidPoint" "ValueError.__new__" veTl && (iniG K "InvalidPoint" R.prog.main.file "ValueError" "ValueError.__init__" && (errG K "InvalidForm" "ValueError.__new__" veTl && (iniG K "InvalidForm" R.prog.main.file "ValueError" "ValueError.__init__" && (errG K "InvalidStep" "ValueError.__new__" veTl && (iniG K "InvalidStep" R.prog.main.file "ValueError" "ValueError.__init__" && (errG K "UnlikeEnds" "ValueError.__new__" veTl && (iniG K "UnlikeEnds" R.prog.main.file "ValueError" "ValueError.__init__" && (errG K "InvalidText" "ValueError.__new__" veTl && (iniG K "InvalidText" R.prog.main.file "ValueError" "ValueError.__init__" && (errG K "InvalidFact" "ValueError.__new__" veTl && (iniG K "InvalidFact" R.prog.main.file "ValueError" "ValueError.__init__" && (errG K "UnlikeScripts" "ValueError.__new__" veTl && (iniG K "UnlikeScripts" R.prog.main.file "ValueError" "ValueError.__init__" && (errG K "UnlikeWorlds" "ValueError.__new__" veTl && (iniG K "UnlikeWorlds" R.prog.main.file "ValueError" "ValueError.__init__" && (errG K "HasTests" "ValueError.__new__" veTl && (iniG K "HasTests" R.prog.main.file "ValueError" "ValueError.__init__" && (errG K "NoWorld" "ValueError.__new__" veTl && (iniG K "NoWorld" R.prog.main.file "ValueError" "ValueError.__init__" && (errG K "InvalidCommand" "ValueError.__new__" veTl && (iniG K "InvalidCommand" R.prog.main.file "ValueError" "ValueError.__init__" && (errG K "InvalidLimit" "ValueError.__new__" veTl && (iniG K "InvalidLimit" R.prog.main.file "ValueError" "ValueError.__init__" && (errG K "Full" "ValueError.__new__" veTl && (iniG K "Full" R.prog.main.file "ValueError" "ValueError.__init__" && (errG K "InvalidPage" "ValueError.__new__" veTl && (iniG K "InvalidPage" R.prog.main.file "ValueError" "ValueError.__init__" && (errG K "TooMany" "ValueError.__new__" veTl && (iniG K "TooMany" R.prog.main.file "ValueError" "ValueError.__init__" && (errG K "UnknownName" "LookupError.__new__" leTail && (iniG K "UnknownName" R.prog.main.file "LookupError" "LookupError.__init__" && (errG K "UnknownScript" "LookupError.__new__" leTail && (iniG K "UnknownScript" R.prog.main.file "LookupError" "LookupError.__init__" && (errG K "NothingLeft" "IndexError.__new__" ieTl && (iniG K "NothingLeft" R.prog.main.file "IndexError" "IndexError.__init__" && (kindB K && (kind1 K (.ref (He.ga K "MilesError")) (fun i => decide (i < 24)) && (kind1 K (.type "ValueError") (fun i => decide (i < 24)) && (kind1 K (.ref (He.ga K "Missing")) (fun i => decide (24 ≤ i ∧ i < 26)) && (kind1 K (.type "LookupError") (fun i => decide (24 ≤ i)) && (kind1 K (.type "IndexError") (fun i => decide (i = 26)))))))))))))))))))))))))))))))))))))))))))))))))))))))))))))
def ins : List IniD := [⟨"InvalidRatio", iniInvalidRatio⟩, ⟨"InvalidNumber", iniInvalidNumber⟩, ⟨"InvalidName", iniInvalidName⟩, ⟨"DuplicateName", iniDuplicateName⟩, ⟨"InvalidRow", iniInvalidRow⟩, ⟨"InvalidLayer", iniInvalidLayer⟩, ⟨"InvalidTable", iniInvalidTable⟩, ⟨"InvalidWay", iniInvalidWay⟩, ⟨"InvalidPlace", iniInvalidPlace⟩, ⟨"InvalidPoint", iniInvalidPoint⟩, ⟨"InvalidForm", iniInvalidForm⟩, ⟨"InvalidStep", iniInvalidStep⟩, ⟨"UnlikeEnds", iniUnlikeEnds⟩, ⟨"InvalidText", iniInvalidText⟩, ⟨"InvalidFact", iniInvalidFact⟩, ⟨"UnlikeScripts", iniUnlikeScripts⟩, ⟨"UnlikeWorlds", iniUnlikeWorlds⟩, ⟨"HasTests", iniHasTests⟩, ⟨"NoWorld", iniNoWorld⟩, ⟨"InvalidCommand", iniInvalidCommand⟩, ⟨"InvalidLimit", iniInvalidLimit⟩, ⟨"Full", iniFull⟩, ⟨"InvalidPage", iniInvalidPage⟩, ⟨"TooMany", iniTooMany⟩, ⟨"UnknownName", iniUnknownName⟩, ⟨"UnknownScript", iniUnknownScript⟩, ⟨"NothingLeft", iniNothingLeft⟩]
def tfs : List He.Defn := []
abbrev hk : PySem.W.Hook := hookI 4 fas fns tfs more ins
def ob (s : PySem.W.SharedT) : AlI := obsI 4 fas fns tfs more ins (HandSHeadRun.getT s)
theorem ob_eq (s : PySem.W.SharedT) : ob s = hk.obs s.abs := obsI_eq (HandSHeadRun.getT_eq s)
def loose : List Str := (["_law_source", "_law_draw", "_law_of", "_law_same", "_law_fields", "_law_first_classes", "_law_last_classes", "copied", "InvalidRatio", "InvalidNumber", "InvalidName", "DuplicateName", "InvalidRow", "InvalidLayer", "InvalidTable", "InvalidWay", "InvalidPlace", "InvalidPoint", "InvalidForm", "InvalidStep", "UnlikeEnds", "InvalidText", "InvalidFact", "UnlikeScripts", "UnlikeWorlds", "HasTests", "NoWorld", "InvalidCommand", "InvalidLimit", "Full"] : List Str) ++ (["InvalidPage", "TooMany", "UnknownName", "UnknownScript", "NothingLeft", "MilesError", "Missing"] : List Str)
theorem run (w : World) : HandSHeadRun.RunEq R (PySem.W.view R.prog [40]) hk ob 12000 loose w := by
  intro os
  kernel_rfl
end Lw

set_option maxRecDepth 100000
set_option maxHeartbeats 0
namespace Lw
open PySem PySem.Spec PyProof.Rows L2 VG
theorem vals_rev : ∀ {xs : List V} {us : List Value}, Vals xs us → Vals xs.reverse us.reverse
  | _, _, .nil => .nil
  | _, _, .cons r t => by
    rw [List.reverse_cons, List.reverse_cons]
    exact (vals_rev t).append (.cons r .nil)
theorem scInvalidRatio : IniScope ["self", "given"] (defScope iniInvalidRatio) := ⟨rfl, rfl, rfl, by decide +kernel, by decide +kernel, by decide +kernel, by decide +kernel, rfl, rfl⟩
theorem scInvalidNumber : IniScope ["self", "given"] (defScope iniInvalidNumber) := ⟨rfl, rfl, rfl, by decide +kernel, by decide +kernel, by decide +kernel, by decide +kernel, rfl, rfl⟩
theorem scInvalidName : IniScope ["self", "given"] (defScope iniInvalidName) := ⟨rfl, rfl, rfl, by decide +kernel, by decide +kernel, by decide +kernel, by decide +kernel, rfl, rfl⟩
theorem scDuplicateName : IniScope ["self", "name"] (defScope iniDuplicateName) := ⟨rfl, rfl, rfl, by decide +kernel, by decide +kernel, by decide +kernel, by decide +kernel, rfl, rfl⟩
theorem scInvalidRow : IniScope ["self", "at"] (defScope iniInvalidRow) := ⟨rfl, rfl, rfl, by decide +kernel, by decide +kernel, by decide +kernel, by decide +kernel, rfl, rfl⟩
theorem scInvalidLayer : IniScope ["self", "given"] (defScope iniInvalidLayer) := ⟨rfl, rfl, rfl, by decide +kernel, by decide +kernel, by decide +kernel, by decide +kernel, rfl, rfl⟩
theorem scInvalidTable : IniScope ["self", "layer"] (defScope iniInvalidTable) := ⟨rfl, rfl, rfl, by decide +kernel, by decide +kernel, by decide +kernel, by decide +kernel, rfl, rfl⟩
theorem scInvalidWay : IniScope ["self", "layer", "start", "goal"] (defScope iniInvalidWay) := ⟨rfl, rfl, rfl, by decide +kernel, by decide +kernel, by decide +kernel, by decide +kernel, rfl, rfl⟩
theorem scInvalidPlace : IniScope ["self", "given"] (defScope iniInvalidPlace) := ⟨rfl, rfl, rfl, by decide +kernel, by decide +kernel, by decide +kernel, by decide +kernel, rfl, rfl⟩
theorem scInvalidPoint : IniScope ["self", "given"] (defScope iniInvalidPoint) := ⟨rfl, rfl, rfl, by decide +kernel, by decide +kernel, by decide +kernel, by decide +kernel, rfl, rfl⟩
theorem scInvalidForm : IniScope ["self", "given"] (defScope iniInvalidForm) := ⟨rfl, rfl, rfl, by decide +kernel, by decide +kernel, by decide +kernel, by decide +kernel, rfl, rfl⟩
theorem scInvalidStep : IniScope ["self", "path"] (defScope iniInvalidStep) := ⟨rfl, rfl, rfl, by decide +kernel, by decide +kernel, by decide +kernel, by decide +kernel, rfl, rfl⟩
theorem scUnlikeEnds : IniScope ["self", "path"] (defScope iniUnlikeEnds) := ⟨rfl, rfl, rfl, by decide +kernel, by decide +kernel, by decide +kernel, by decide +kernel, rfl, rfl⟩
theorem scInvalidText : IniScope ["self", "word"] (defScope iniInvalidText) := ⟨rfl, rfl, rfl, by decide +kernel, by decide +kernel, by decide +kernel, by decide +kernel, rfl, rfl⟩
theorem scInvalidFact : IniScope ["self", "at"] (defScope iniInvalidFact) := ⟨rfl, rfl, rfl, by decide +kernel, by decide +kernel, by decide +kernel, by decide +kernel, rfl, rfl⟩
theorem scUnlikeScripts : IniScope ["self"] (defScope iniUnlikeScripts) := ⟨rfl, rfl, rfl, by decide +kernel, by decide +kernel, by decide +kernel, by decide +kernel, rfl, rfl⟩
theorem scUnlikeWorlds : IniScope ["self"] (defScope iniUnlikeWorlds) := ⟨rfl, rfl, rfl, by decide +kernel, by decide +kernel, by decide +kernel, by decide +kernel, rfl, rfl⟩
theorem scHasTests : IniScope ["self"] (defScope iniHasTests) := ⟨rfl, rfl, rfl, by decide +kernel, by decide +kernel, by decide +kernel, by decide +kernel, rfl, rfl⟩
theorem scNoWorld : IniScope ["self"] (defScope iniNoWorld) := ⟨rfl, rfl, rfl, by decide +kernel, by decide +kernel, by decide +kernel, by decide +kernel, rfl, rfl⟩
theorem scInvalidCommand : IniScope ["self", "at"] (defScope iniInvalidCommand) := ⟨rfl, rfl, rfl, by decide +kernel, by decide +kernel, by decide +kernel, by decide +kernel, rfl, rfl⟩
theorem scInvalidLimit : IniScope ["self", "given"] (defScope iniInvalidLimit) := ⟨rfl, rfl, rfl, by decide +kernel, by decide +kernel, by decide +kernel, by decide +kernel, rfl, rfl⟩
theorem scFull : IniScope ["self", "limit"] (defScope iniFull) := ⟨rfl, rfl, rfl, by decide +kernel, by decide +kernel, by decide +kernel, by decide +kernel, rfl, rfl⟩
theorem scInvalidPage : IniScope ["self", "line"] (defScope iniInvalidPage) := ⟨rfl, rfl, rfl, by decide +kernel, by decide +kernel, by decide +kernel, by decide +kernel, rfl, rfl⟩
theorem scTooMany : IniScope ["self", "subject", "most"] (defScope iniTooMany) := ⟨rfl, rfl, rfl, by decide +kernel, by decide +kernel, by decide +kernel, by decide +kernel, rfl, rfl⟩
theorem scUnknownName : IniScope ["self", "name"] (defScope iniUnknownName) := ⟨rfl, rfl, rfl, by decide +kernel, by decide +kernel, by decide +kernel, by decide +kernel, rfl, rfl⟩
theorem scUnknownScript : IniScope ["self", "word"] (defScope iniUnknownScript) := ⟨rfl, rfl, rfl, by decide +kernel, by decide +kernel, by decide +kernel, by decide +kernel, rfl, rfl⟩
theorem scNothingLeft : IniScope ["self"] (defScope iniNothingLeft) := ⟨rfl, rfl, rfl, by decide +kernel, by decide +kernel, by decide +kernel, by decide +kernel, rfl, rfl⟩
abbrev L : PySem.W.OpenLaw := PySem.Challenge.rw_missingmiles_k01_errors_by_themselves
theorem facts {w : World} {K : PySem.W.Frag} {h : Heap} {mg : Str → Option Value} {f : Addr} (X : K.In h) (G : h.Ns mainGlobals mg) (hfa : mg ("law" : Str) = some (.ref f)) (c : SaysI fas fns tfs more ins w h K) : LawG L w K CX0 7 63 "_law_script" mg f h := by
  have d := c.x.t.d
  have e := hfa.symm.trans (He.glo_ok X G (d.fact 0 (f := .glo "law") rfl))
  cases e
  have gl : ∀ {x : Str} (i : Nat), fas[i]? = some (.glo x) → mg x = some (.ref (He.ga K x)) := fun i hi => He.glo_ok X G (d.fact i hi)
  have fr : ∀ {x : Str} (i : Nat), fas[i]? = some (.free x) → mg x = none := fun i hi => He.free_ok X G (d.fact i hi)
  obtain ⟨fd0, F0⟩ := d.def_ 0 (d := glb "law" sLaw []) rfl
  obtain ⟨fd1, F1⟩ := d.def_ 1 (d := glb "_law_source" sSource []) rfl
  obtain ⟨fd2, F2⟩ := d.def_ 2 (d := glb "_law_draw" sDraw []) rfl
  obtain ⟨fd3, F3⟩ := d.def_ 3 (d := glb "_law_of" sOf []) rfl
  obtain ⟨fd4, F4⟩ := d.def_ 4 (d := glb "_law_same" sSame []) rfl
  obtain ⟨fd5, F5⟩ := d.def_ 5 (d := glb "_law_fields" s__law_fields []) rfl
  obtain ⟨fd6, F6⟩ := d.def_ 6 (d := glb "_law_first_classes" s__law_first_classes []) rfl
  obtain ⟨fd7, F7⟩ := d.def_ 7 (d := glb "_law_last_classes" s__law_last_classes []) rfl
  obtain ⟨fd8, F8⟩ := d.def_ 8 (d := glb "copied" s_copied []) rfl
  have b0 := FunD.bindsA (ps := ["_law_script"]) F0 fun _ _ _ _ _ _ us hl => match us, hl with | [_], _ => rfl
  have b1 := FunD.bindsN (ps := ["_law_script"]) F1 fun _ _ _ _ _ _ us hl => match us, hl with | [_], _ => rfl
  have b2 := FunD.bindsN (ps := ["_law_src", "_law_many"]) F2 fun _ _ _ _ _ _ us hl => match us, hl with | [_, _], _ => rfl
  have b3 := FunD.bindsN (ps := ["_law_src", "_law_some"]) F3 fun _ _ _ _ _ _ us hl => match us, hl with | [_, _], _ => rfl
  have b4 := FunD.bindsN (ps := ["_law_found", "_law_due"]) F4 fun _ _ _ _ _ _ us hl => match us, hl with | [_, _], _ => rfl
  have b5 := FunD.bindsN (ps := ["_law_e"]) F5 fun _ _ _ _ _ _ us hl => match us, hl with | [_], _ => rfl
  have b6 := FunD.bindsN (ps := ["_law_e"]) F6 fun _ _ _ _ _ _ us hl => match us, hl with | [_], _ => rfl
  have b7 := FunD.bindsN (ps := ["_law_e"]) F7 fun _ _ _ _ _ _ us hl => match us, hl with | [_], _ => rfl
  have b8 := FunD.bindsN (ps := ["value"]) F8 fun _ _ _ _ _ _ us hl => match us, hl with | [_], _ => rfl
  obtain ⟨m1, m⟩ := He.ba c.x.more
  obtain ⟨m2, m⟩ := He.ba m
  obtain ⟨m3, m⟩ := He.ba m
  obtain ⟨m4, m⟩ := He.ba m
  obtain ⟨m5, m⟩ := He.ba m
  obtain ⟨m6, m⟩ := He.ba m
  obtain ⟨m7, m⟩ := He.ba m
  obtain ⟨m8, m⟩ := He.ba m
  obtain ⟨m9, m⟩ := He.ba m
  obtain ⟨m10, m⟩ := He.ba m
  obtain ⟨m11, m⟩ := He.ba m
  obtain ⟨m12, m⟩ := He.ba m
  obtain ⟨m13, m⟩ := He.ba m
  obtain ⟨m14, m⟩ := He.ba m
  obtain ⟨m15, m⟩ := He.ba m
  obtain ⟨m16, m⟩ := He.ba m
  obtain ⟨m17, m⟩ := He.ba m
  obtain ⟨m18, m⟩ := He.ba m
  obtain ⟨m19, m⟩ := He.ba m
  obtain ⟨m20, m⟩ := He.ba m
  obtain ⟨m21, m⟩ := He.ba m
  obtain ⟨m22, m⟩ := He.ba m
  obtain ⟨m23, m⟩ := He.ba m
  obtain ⟨m24, m⟩ := He.ba m
  obtain ⟨m25, m⟩ := He.ba m
  obtain ⟨m26, m⟩ := He.ba m
  obtain ⟨m27, m⟩ := He.ba m
  obtain ⟨m28, m⟩ := He.ba m
  obtain ⟨m29, m⟩ := He.ba m
  obtain ⟨m30, m⟩ := He.ba m
  obtain ⟨m31, m⟩ := He.ba m
  obtain ⟨m32, m⟩ := He.ba m
  obtain ⟨m33, m⟩ := He.ba m
  obtain ⟨m34, m⟩ := He.ba m
  obtain ⟨m35, m⟩ := He.ba m
  obtain ⟨m36, m⟩ := He.ba m
  obtain ⟨m37, m⟩ := He.ba m
  obtain ⟨m38, m⟩ := He.ba m
  obtain ⟨m39, m⟩ := He.ba m
  obtain ⟨m40, m⟩ := He.ba m
  obtain ⟨m41, m⟩ := He.ba m
  obtain ⟨m42, m⟩ := He.ba m
  obtain ⟨m43, m⟩ := He.ba m
  obtain ⟨m44, m⟩ := He.ba m
  obtain ⟨m45, m⟩ := He.ba m
  obtain ⟨m46, m⟩ := He.ba m
  obtain ⟨m47, m⟩ := He.ba m
  obtain ⟨m48, m⟩ := He.ba m
  obtain ⟨m49, m⟩ := He.ba m
  obtain ⟨m50, m⟩ := He.ba m
  obtain ⟨m51, m⟩ := He.ba m
  obtain ⟨m52, m⟩ := He.ba m
  obtain ⟨m53, m⟩ := He.ba m
  obtain ⟨m54, m⟩ := He.ba m
  obtain ⟨m55, m⟩ := He.ba m
  obtain ⟨m56, m⟩ := He.ba m
  obtain ⟨m57, m⟩ := He.ba m
  obtain ⟨m58, m⟩ := He.ba m
  obtain ⟨m59, m60⟩ := He.ba m
  have tN : Nm mg := ⟨(fr 38 rfl), (fr 39 rfl), (fr 40 rfl), (fr 41 rfl)⟩
  have tC : NmC mg := ⟨(fr 42 rfl), (fr 40 rfl), (fr 44 rfl)⟩
  have f0 : Fun K "law" "law" sLaw (He.ga K "law") fd0 := fun_of F0
  refine ⟨fd0, [], spLaw K, (fun p hp => by cases hp), (fun p hp => by cases hp), (fun p hp => by cases hp), fun s v => b0 s [v] rfl, fun H a ns hl _ hT hS => ⟨a, ns, rfl, hS, hl, fun _ => rfl⟩, fun base _ _ TB => ?_⟩
  have GC := ok_copied (P := L.prog) (w := w) (base := base) (fun_of F8) tC (gl 8 rfl) b8 2
  have E0 : ErrV L.prog w K mg base "InvalidRatio" ["given"] (He.ga K "InvalidRatio") 4 2 1 [] := errV_of (st := iniInvalidRatio) (ps := ["self", "given"]) (c.ini _ (List.mem_of_getElem? (i := 0) rfl)) PySem.W.kxs_ValueError (iniG_ok m2) (errG_ok tailVE m1) (gl 9 rfl) (fun env => ⟨_, rfl⟩) rfl scInvalidRatio rfl rfl GC rfl (gl 8 rfl) F8.kp b8
    (by decide) (by decide) (by decide) rfl (.fld rfl rfl (.code rfl)) (fr 45 rfl) rfl fun _ _ _ _ _ _ _ _ us ws h1 h2 => match us, ws, h1, h2 with | [_, _], [], _, _ => rfl
  have E1 : ErrV L.prog w K mg base "InvalidNumber" ["given"] (He.ga K "InvalidNumber") 4 2 0 ["given"] := errV_of (st := iniInvalidNumber) (ps := ["self", "given"]) (c.ini _ (List.mem_of_getElem? (i := 1) rfl)) PySem.W.kxs_ValueError (iniG_ok m4) (errG_ok tailVE m3) (gl 10 rfl) (fun env => ⟨_, rfl⟩) rfl scInvalidNumber rfl rfl GC rfl (gl 8 rfl) F8.kp b8
    (by decide) (by decide) (by decide) rfl (.fld rfl rfl (.code rfl)) (fr 45 rfl) rfl fun _ _ _ _ _ _ _ _ us ws h1 h2 => match us, ws, h1, h2 with | [_], [_], _, _ => rfl
  have E2 : ErrV L.prog w K mg base "InvalidName" ["given"] (He.ga K "InvalidName") 4 2 1 [] := errV_of (st := iniInvalidName) (ps := ["self", "given"]) (c.ini _ (List.mem_of_getElem? (i := 2) rfl)) PySem.W.kxs_ValueError (iniG_ok m6) (errG_ok tailVE m5) (gl 11 rfl) (fun env => ⟨_, rfl⟩) rfl scInvalidName rfl rfl GC rfl (gl 8 rfl) F8.kp b8
    (by decide) (by decide) (by decide) rfl (.fld rfl rfl (.code rfl)) (fr 45 rfl) rfl fun _ _ _ _ _ _ _ _ us ws h1 h2 => match us, ws, h1, h2 with | [_, _], [], _, _ => rfl
  have E3 : ErrV L.prog w K mg base "DuplicateName" ["name"] (He.ga K "DuplicateName") 4 2 0 ["name"] := errV_of (st := iniDuplicateName) (ps := ["self", "name"]) (c.ini _ (List.mem_of_getElem? (i := 3) rfl)) PySem.W.kxs_ValueError (iniG_ok m8) (errG_ok tailVE m7) (gl 12 rfl) (fun env => ⟨_, rfl⟩) rfl scDuplicateName rfl rfl GC rfl (gl 8 rfl) F8.kp b8
    (by decide) (by decide) (by decide) rfl (.fld rfl rfl (.code rfl)) (fr 45 rfl) rfl fun _ _ _ _ _ _ _ _ us ws h1 h2 => match us, ws, h1, h2 with | [_], [_], _, _ => rfl
  have E4 : ErrV L.prog w K mg base "InvalidRow" ["at"] (He.ga K "InvalidRow") 4 2 1 [] := errV_of (st := iniInvalidRow) (ps := ["self", "at"]) (c.ini _ (List.mem_of_getElem? (i := 4) rfl)) PySem.W.kxs_ValueError (iniG_ok m10) (errG_ok tailVE m9) (gl 13 rfl) (fun env => ⟨_, rfl⟩) rfl scInvalidRow rfl rfl GC rfl (gl 8 rfl) F8.kp b8
    (by decide) (by decide) (by decide) rfl (.fld rfl rfl (.code rfl)) (fr 45 rfl) rfl fun _ _ _ _ _ _ _ _ us ws h1 h2 => match us, ws, h1, h2 with | [_, _], [], _, _ => rfl
  have E5 : ErrV L.prog w K mg base "InvalidLayer" ["given"] (He.ga K "InvalidLayer") 4 2 1 [] := errV_of (st := iniInvalidLayer) (ps := ["self", "given"]) (c.ini _ (List.mem_of_getElem? (i := 5) rfl)) PySem.W.kxs_ValueError (iniG_ok m12) (errG_ok tailVE m11) (gl 14 rfl) (fun env => ⟨_, rfl⟩) rfl scInvalidLayer rfl rfl GC rfl (gl 8 rfl) F8.kp b8
    (by decide) (by decide) (by decide) rfl (.fld rfl rfl (.code rfl)) (fr 45 rfl) rfl fun _ _ _ _ _ _ _ _ us ws h1 h2 => match us, ws, h1, h2 with | [_, _], [], _, _ => rfl
  have E6 : ErrV L.prog w K mg base "InvalidTable" ["layer"] (He.ga K "InvalidTable") 4 2 0 ["layer"] := errV_of (st := iniInvalidTable) (ps := ["self", "layer"]) (c.ini _ (List.mem_of_getElem? (i := 6) rfl)) PySem.W.kxs_ValueError (iniG_ok m14) (errG_ok tailVE m13) (gl 15 rfl) (fun env => ⟨_, rfl⟩) rfl scInvalidTable rfl rfl GC rfl (gl 8 rfl) F8.kp b8
    (by decide) (by decide) (by decide) rfl (.fld rfl rfl (.code rfl)) (fr 45 rfl) rfl fun _ _ _ _ _ _ _ _ us ws h1 h2 => match us, ws, h1, h2 with | [_], [_], _, _ => rfl
  have E7 : ErrV L.prog w K mg base "InvalidWay" ["layer", "start", "goal"] (He.ga K "InvalidWay") 4 2 2 ["goal"] := errV_of (st := iniInvalidWay) (ps := ["self", "layer", "start", "goal"]) (c.ini _ (List.mem_of_getElem? (i := 7) rfl)) PySem.W.kxs_ValueError (iniG_ok m16) (errG_ok tailVE m15) (gl 16 rfl) (fun env => ⟨_, rfl⟩) rfl scInvalidWay rfl rfl GC rfl (gl 8 rfl) F8.kp b8
    (by decide) (by decide) (by decide) rfl (.fld rfl rfl (.fld rfl rfl (.fld rfl rfl (.code rfl)))) (fr 45 rfl) rfl fun _ _ _ _ _ _ _ _ us ws h1 h2 => match us, ws, h1, h2 with | [_, _, _], [_], _, _ => rfl
  have E8 : ErrV L.prog w K mg base "InvalidPlace" ["given"] (He.ga K "InvalidPlace") 4 2 1 [] := errV_of (st := iniInvalidPlace) (ps := ["self", "given"]) (c.ini _ (List.mem_of_getElem? (i := 8) rfl)) PySem.W.kxs_ValueError (iniG_ok m18) (errG_ok tailVE m17) (gl 17 rfl) (fun env => ⟨_, rfl⟩) rfl scInvalidPlace rfl rfl GC rfl (gl 8 rfl) F8.kp b8
    (by decide) (by decide) (by decide) rfl (.fld rfl rfl (.code rfl)) (fr 45 rfl) rfl fun _ _ _ _ _ _ _ _ us ws h1 h2 => match us, ws, h1, h2 with | [_, _], [], _, _ => rfl
  have E9 : ErrV L.prog w K mg base "InvalidPoint" ["given"] (He.ga K "InvalidPoint") 4 2 0 ["given"] := errV_of (st := iniInvalidPoint) (ps := ["self", "given"]) (c.ini _ (List.mem_of_getElem? (i := 9) rfl)) PySem.W.kxs_ValueError (iniG_ok m20) (errG_ok tailVE m19) (gl 18 rfl) (fun env => ⟨_, rfl⟩) rfl scInvalidPoint rfl rfl GC rfl (gl 8 rfl) F8.kp b8
    (by decide) (by decide) (by decide) rfl (.fld rfl rfl (.code rfl)) (fr 45 rfl) rfl fun _ _ _ _ _ _ _ _ us ws h1 h2 => match us, ws, h1, h2 with | [_], [_], _, _ => rfl
  have E10 : ErrV L.prog w K mg base "InvalidForm" ["given"] (He.ga K "InvalidForm") 4 2 1 [] := errV_of (st := iniInvalidForm) (ps := ["self", "given"]) (c.ini _ (List.mem_of_getElem? (i := 10) rfl)) PySem.W.kxs_ValueError (iniG_ok m22) (errG_ok tailVE m21) (gl 19 rfl) (fun env => ⟨_, rfl⟩) rfl scInvalidForm rfl rfl GC rfl (gl 8 rfl) F8.kp b8
    (by decide) (by decide) (by decide) rfl (.fld rfl rfl (.code rfl)) (fr 45 rfl) rfl fun _ _ _ _ _ _ _ _ us ws h1 h2 => match us, ws, h1, h2 with | [_, _], [], _, _ => rfl
  have E11 : ErrV L.prog w K mg base "InvalidStep" ["path"] (He.ga K "InvalidStep") 4 2 0 ["path"] := errV_of (st := iniInvalidStep) (ps := ["self", "path"]) (c.ini _ (List.mem_of_getElem? (i := 11) rfl)) PySem.W.kxs_ValueError (iniG_ok m24) (errG_ok tailVE m23) (gl 20 rfl) (fun env => ⟨_, rfl⟩) rfl scInvalidStep rfl rfl GC rfl (gl 8 rfl) F8.kp b8
    (by decide) (by decide) (by decide) rfl (.fld rfl rfl (.code rfl)) (fr 45 rfl) rfl fun _ _ _ _ _ _ _ _ us ws h1 h2 => match us, ws, h1, h2 with | [_], [_], _, _ => rfl
  have E12 : ErrV L.prog w K mg base "UnlikeEnds" ["path"] (He.ga K "UnlikeEnds") 4 2 1 [] := errV_of (st := iniUnlikeEnds) (ps := ["self", "path"]) (c.ini _ (List.mem_of_getElem? (i := 12) rfl)) PySem.W.kxs_ValueError (iniG_ok m26) (errG_ok tailVE m25) (gl 21 rfl) (fun env => ⟨_, rfl⟩) rfl scUnlikeEnds rfl rfl GC rfl (gl 8 rfl) F8.kp b8
    (by decide) (by decide) (by decide) rfl (.fld rfl rfl (.code rfl)) (fr 45 rfl) rfl fun _ _ _ _ _ _ _ _ us ws h1 h2 => match us, ws, h1, h2 with | [_, _], [], _, _ => rfl
  have E13 : ErrV L.prog w K mg base "InvalidText" ["word"] (He.ga K "InvalidText") 4 2 0 ["word"] := errV_of (st := iniInvalidText) (ps := ["self", "word"]) (c.ini _ (List.mem_of_getElem? (i := 13) rfl)) PySem.W.kxs_ValueError (iniG_ok m28) (errG_ok tailVE m27) (gl 22 rfl) (fun env => ⟨_, rfl⟩) rfl scInvalidText rfl rfl GC rfl (gl 8 rfl) F8.kp b8
    (by decide) (by decide) (by decide) rfl (.fld rfl rfl (.code rfl)) (fr 45 rfl) rfl fun _ _ _ _ _ _ _ _ us ws h1 h2 => match us, ws, h1, h2 with | [_], [_], _, _ => rfl
  have E14 : ErrV L.prog w K mg base "InvalidFact" ["at"] (He.ga K "InvalidFact") 4 2 0 ["at"] := errV_of (st := iniInvalidFact) (ps := ["self", "at"]) (c.ini _ (List.mem_of_getElem? (i := 14) rfl)) PySem.W.kxs_ValueError (iniG_ok m30) (errG_ok tailVE m29) (gl 23 rfl) (fun env => ⟨_, rfl⟩) rfl scInvalidFact rfl rfl GC rfl (gl 8 rfl) F8.kp b8
    (by decide) (by decide) (by decide) rfl (.fld rfl rfl (.code rfl)) (fr 45 rfl) rfl fun _ _ _ _ _ _ _ _ us ws h1 h2 => match us, ws, h1, h2 with | [_], [_], _, _ => rfl
  have E15 : ErrV L.prog w K mg base "UnlikeScripts" [] (He.ga K "UnlikeScripts") 4 2 0 [] := errV_of0 (st := iniUnlikeScripts) (ps := ["self"]) (c.ini _ (List.mem_of_getElem? (i := 15) rfl)) PySem.W.kxs_ValueError (iniG_ok m32) (errG_ok tailVE m31) (gl 24 rfl) (fun env => ⟨_, rfl⟩) rfl scUnlikeScripts rfl rfl
    (by decide) rfl (.code rfl) (fr 45 rfl) rfl fun _ _ _ _ _ _ _ _ us ws h1 h2 => match us, ws, h1, h2 with | [_], [], _, _ => rfl
  have E16 : ErrV L.prog w K mg base "UnlikeWorlds" [] (He.ga K "UnlikeWorlds") 4 2 0 [] := errV_of0 (st := iniUnlikeWorlds) (ps := ["self"]) (c.ini _ (List.mem_of_getElem? (i := 16) rfl)) PySem.W.kxs_ValueError (iniG_ok m34) (errG_ok tailVE m33) (gl 25 rfl) (fun env => ⟨_, rfl⟩) rfl scUnlikeWorlds rfl rfl
    (by decide) rfl (.code rfl) (fr 45 rfl) rfl fun _ _ _ _ _ _ _ _ us ws h1 h2 => match us, ws, h1, h2 with | [_], [], _, _ => rfl
  have E17 : ErrV L.prog w K mg base "HasTests" [] (He.ga K "HasTests") 4 2 0 [] := errV_of0 (st := iniHasTests) (ps := ["self"]) (c.ini _ (List.mem_of_getElem? (i := 17) rfl)) PySem.W.kxs_ValueError (iniG_ok m36) (errG_ok tailVE m35) (gl 26 rfl) (fun env => ⟨_, rfl⟩) rfl scHasTests rfl rfl
    (by decide) rfl (.code rfl) (fr 45 rfl) rfl fun _ _ _ _ _ _ _ _ us ws h1 h2 => match us, ws, h1, h2 with | [_], [], _, _ => rfl
  have E18 : ErrV L.prog w K mg base "NoWorld" [] (He.ga K "NoWorld") 4 2 0 [] := errV_of0 (st := iniNoWorld) (ps := ["self"]) (c.ini _ (List.mem_of_getElem? (i := 18) rfl)) PySem.W.kxs_ValueError (iniG_ok m38) (errG_ok tailVE m37) (gl 27 rfl) (fun env => ⟨_, rfl⟩) rfl scNoWorld rfl rfl
    (by decide) rfl (.code rfl) (fr 45 rfl) rfl fun _ _ _ _ _ _ _ _ us ws h1 h2 => match us, ws, h1, h2 with | [_], [], _, _ => rfl
  have E19 : ErrV L.prog w K mg base "InvalidCommand" ["at"] (He.ga K "InvalidCommand") 4 2 1 [] := errV_of (st := iniInvalidCommand) (ps := ["self", "at"]) (c.ini _ (List.mem_of_getElem? (i := 19) rfl)) PySem.W.kxs_ValueError (iniG_ok m40) (errG_ok tailVE m39) (gl 28 rfl) (fun env => ⟨_, rfl⟩) rfl scInvalidCommand rfl rfl GC rfl (gl 8 rfl) F8.kp b8
    (by decide) (by decide) (by decide) rfl (.fld rfl rfl (.code rfl)) (fr 45 rfl) rfl fun _ _ _ _ _ _ _ _ us ws h1 h2 => match us, ws, h1, h2 with | [_, _], [], _, _ => rfl
  have E20 : ErrV L.prog w K mg base "InvalidLimit" ["given"] (He.ga K "InvalidLimit") 4 2 1 [] := errV_of (st := iniInvalidLimit) (ps := ["self", "given"]) (c.ini _ (List.mem_of_getElem? (i := 20) rfl)) PySem.W.kxs_ValueError (iniG_ok m42) (errG_ok tailVE m41) (gl 29 rfl) (fun env => ⟨_, rfl⟩) rfl scInvalidLimit rfl rfl GC rfl (gl 8 rfl) F8.kp b8
    (by decide) (by decide) (by decide) rfl (.fld rfl rfl (.code rfl)) (fr 45 rfl) rfl fun _ _ _ _ _ _ _ _ us ws h1 h2 => match us, ws, h1, h2 with | [_, _], [], _, _ => rfl
  have E21 : ErrV L.prog w K mg base "Full" ["limit"] (He.ga K "Full") 4 2 0 ["limit"] := errV_of (st := iniFull) (ps := ["self", "limit"]) (c.ini _ (List.mem_of_getElem? (i := 21) rfl)) PySem.W.kxs_ValueError (iniG_ok m44) (errG_ok tailVE m43) (gl 30 rfl) (fun env => ⟨_, rfl⟩) rfl scFull rfl rfl GC rfl (gl 8 rfl) F8.kp b8
    (by decide) (by decide) (by decide) rfl (.fld rfl rfl (.code rfl)) (fr 45 rfl) rfl fun _ _ _ _ _ _ _ _ us ws h1 h2 => match us, ws, h1, h2 with | [_], [_], _, _ => rfl
  have E22 : ErrV L.prog w K mg base "InvalidPage" ["line"] (He.ga K "InvalidPage") 4 2 0 ["line"] := errV_of (st := iniInvalidPage) (ps := ["self", "line"]) (c.ini _ (List.mem_of_getElem? (i := 22) rfl)) PySem.W.kxs_ValueError (iniG_ok m46) (errG_ok tailVE m45) (gl 31 rfl) (fun env => ⟨_, rfl⟩) rfl scInvalidPage rfl rfl GC rfl (gl 8 rfl) F8.kp b8
    (by decide) (by decide) (by decide) rfl (.fld rfl rfl (.code rfl)) (fr 45 rfl) rfl fun _ _ _ _ _ _ _ _ us ws h1 h2 => match us, ws, h1, h2 with | [_], [_], _, _ => rfl
  have E23 : ErrV L.prog w K mg base "TooMany" ["subject", "most"] (He.ga K "TooMany") 4 2 1 ["most"] := errV_of (st := iniTooMany) (ps := ["self", "subject", "most"]) (c.ini _ (List.mem_of_getElem? (i := 23) rfl)) PySem.W.kxs_ValueError (iniG_ok m48) (errG_ok tailVE m47) (gl 32 rfl) (fun env => ⟨_, rfl⟩) rfl scTooMany rfl rfl GC rfl (gl 8 rfl) F8.kp b8
    (by decide) (by decide) (by decide) rfl (.fld rfl rfl (.fld rfl rfl (.code rfl))) (fr 45 rfl) rfl fun _ _ _ _ _ _ _ _ us ws h1 h2 => match us, ws, h1, h2 with | [_, _], [_], _, _ => rfl
  have E24 : ErrV L.prog w K mg base "UnknownName" ["name"] (He.ga K "UnknownName") 4 2 1 [] := errV_of (st := iniUnknownName) (ps := ["self", "name"]) (c.ini _ (List.mem_of_getElem? (i := 24) rfl)) PySem.W.kxs_LookupError (iniG_ok m50) (errG_ok tailLE m49) (gl 33 rfl) (fun env => ⟨_, rfl⟩) rfl scUnknownName rfl rfl GC rfl (gl 8 rfl) F8.kp b8
    (by decide) (by decide) (by decide) rfl (.fld rfl rfl (.code rfl)) (fr 45 rfl) rfl fun _ _ _ _ _ _ _ _ us ws h1 h2 => match us, ws, h1, h2 with | [_, _], [], _, _ => rfl
  have E25 : ErrV L.prog w K mg base "UnknownScript" ["word"] (He.ga K "UnknownScript") 4 2 0 ["word"] := errV_of (st := iniUnknownScript) (ps := ["self", "word"]) (c.ini _ (List.mem_of_getElem? (i := 25) rfl)) PySem.W.kxs_LookupError (iniG_ok m52) (errG_ok tailLE m51) (gl 34 rfl) (fun env => ⟨_, rfl⟩) rfl scUnknownScript rfl rfl GC rfl (gl 8 rfl) F8.kp b8
    (by decide) (by decide) (by decide) rfl (.fld rfl rfl (.code rfl)) (fr 45 rfl) rfl fun _ _ _ _ _ _ _ _ us ws h1 h2 => match us, ws, h1, h2 with | [_], [_], _, _ => rfl
  have E26 : ErrV L.prog w K mg base "NothingLeft" [] (He.ga K "NothingLeft") 4 2 0 [] := errV_of0 (st := iniNothingLeft) (ps := ["self"]) (c.ini _ (List.mem_of_getElem? (i := 26) rfl)) PySem.W.kxs_IndexError (iniG_ok m54) (errG_ok tailIE m53) (gl 35 rfl) (fun env => ⟨_, rfl⟩) rfl scNothingLeft rfl rfl
    (by decide) rfl (.code rfl) (fr 45 rfl) rfl fun _ _ _ _ _ _ _ _ us ws h1 h2 => match us, ws, h1, h2 with | [_], [], _, _ => rfl
  have kT : KindT K mg (He.ga K) := by
    refine ⟨?_, ?_, ?_, fun i j a b hi hj => kindB_ok m55 hi hj⟩
    · intro nm hm
      rcases List.mem_cons.mp hm with rfl | hm
      · exact E0.glob
      rcases List.mem_cons.mp hm with rfl | hm
      · exact E1.glob
      rcases List.mem_cons.mp hm with rfl | hm
      · exact E2.glob
      rcases List.mem_cons.mp hm with rfl | hm
      · exact E3.glob
      rcases List.mem_cons.mp hm with rfl | hm
      · exact E4.glob
      rcases List.mem_cons.mp hm with rfl | hm
      · exact E5.glob
      rcases List.mem_cons.mp hm with rfl | hm
      · exact E6.glob
      rcases List.mem_cons.mp hm with rfl | hm
      · exact E7.glob
      rcases List.mem_cons.mp hm with rfl | hm
      · exact E8.glob
      rcases List.mem_cons.mp hm with rfl | hm
      · exact E9.glob
      rcases List.mem_cons.mp hm with rfl | hm
      · exact E10.glob
      rcases List.mem_cons.mp hm with rfl | hm
      · exact E11.glob
      rcases List.mem_cons.mp hm with rfl | hm
      · exact E12.glob
      rcases List.mem_cons.mp hm with rfl | hm
      · exact E13.glob
      rcases List.mem_cons.mp hm with rfl | hm
      · exact E14.glob
      rcases List.mem_cons.mp hm with rfl | hm
      · exact E15.glob
      rcases List.mem_cons.mp hm with rfl | hm
      · exact E16.glob
      rcases List.mem_cons.mp hm with rfl | hm
      · exact E17.glob
      rcases List.mem_cons.mp hm with rfl | hm
      · exact E18.glob
      rcases List.mem_cons.mp hm with rfl | hm
      · exact E19.glob
      rcases List.mem_cons.mp hm with rfl | hm
      · exact E20.glob
      rcases List.mem_cons.mp hm with rfl | hm
      · exact E21.glob
      rcases List.mem_cons.mp hm with rfl | hm
      · exact E22.glob
      rcases List.mem_cons.mp hm with rfl | hm
      · exact E23.glob
      rcases List.mem_cons.mp hm with rfl | hm
      · exact E24.glob
      rcases List.mem_cons.mp hm with rfl | hm
      · exact E25.glob
      rcases List.mem_cons.mp hm with rfl | hm
      · exact E26.glob
      cases hm
    · intro nm hm
      rcases List.mem_cons.mp hm with rfl | hm
      · exact E0.own
      rcases List.mem_cons.mp hm with rfl | hm
      · exact E1.own
      rcases List.mem_cons.mp hm with rfl | hm
      · exact E2.own
      rcases List.mem_cons.mp hm with rfl | hm
      · exact E3.own
      rcases List.mem_cons.mp hm with rfl | hm
      · exact E4.own
      rcases List.mem_cons.mp hm with rfl | hm
      · exact E5.own
      rcases List.mem_cons.mp hm with rfl | hm
      · exact E6.own
      rcases List.mem_cons.mp hm with rfl | hm
      · exact E7.own
      rcases List.mem_cons.mp hm with rfl | hm
      · exact E8.own
      rcases List.mem_cons.mp hm with rfl | hm
      · exact E9.own
      rcases List.mem_cons.mp hm with rfl | hm
      · exact E10.own
      rcases List.mem_cons.mp hm with rfl | hm
      · exact E11.own
      rcases List.mem_cons.mp hm with rfl | hm
      · exact E12.own
      rcases List.mem_cons.mp hm with rfl | hm
      · exact E13.own
      rcases List.mem_cons.mp hm with rfl | hm
      · exact E14.own
      rcases List.mem_cons.mp hm with rfl | hm
      · exact E15.own
      rcases List.mem_cons.mp hm with rfl | hm
      · exact E16.own
      rcases List.mem_cons.mp hm with rfl | hm
      · exact E17.own
      rcases List.mem_cons.mp hm with rfl | hm
      · exact E18.own
      rcases List.mem_cons.mp hm with rfl | hm
      · exact E19.own
      rcases List.mem_cons.mp hm with rfl | hm
      · exact E20.own
      rcases List.mem_cons.mp hm with rfl | hm
      · exact E21.own
      rcases List.mem_cons.mp hm with rfl | hm
      · exact E22.own
      rcases List.mem_cons.mp hm with rfl | hm
      · exact E23.own
      rcases List.mem_cons.mp hm with rfl | hm
      · exact E24.own
      rcases List.mem_cons.mp hm with rfl | hm
      · exact E25.own
      rcases List.mem_cons.mp hm with rfl | hm
      · exact E26.own
      cases hm
    · intro nm hm
      rcases List.mem_cons.mp hm with rfl | hm
      · exact E0.cls
      rcases List.mem_cons.mp hm with rfl | hm
      · exact E1.cls
      rcases List.mem_cons.mp hm with rfl | hm
      · exact E2.cls
      rcases List.mem_cons.mp hm with rfl | hm
      · exact E3.cls
      rcases List.mem_cons.mp hm with rfl | hm
      · exact E4.cls
      rcases List.mem_cons.mp hm with rfl | hm
      · exact E5.cls
      rcases List.mem_cons.mp hm with rfl | hm
      · exact E6.cls
      rcases List.mem_cons.mp hm with rfl | hm
      · exact E7.cls
      rcases List.mem_cons.mp hm with rfl | hm
      · exact E8.cls
      rcases List.mem_cons.mp hm with rfl | hm
      · exact E9.cls
      rcases List.mem_cons.mp hm with rfl | hm
      · exact E10.cls
      rcases List.mem_cons.mp hm with rfl | hm
      · exact E11.cls
      rcases List.mem_cons.mp hm with rfl | hm
      · exact E12.cls
      rcases List.mem_cons.mp hm with rfl | hm
      · exact E13.cls
      rcases List.mem_cons.mp hm with rfl | hm
      · exact E14.cls
      rcases List.mem_cons.mp hm with rfl | hm
      · exact E15.cls
      rcases List.mem_cons.mp hm with rfl | hm
      · exact E16.cls
      rcases List.mem_cons.mp hm with rfl | hm
      · exact E17.cls
      rcases List.mem_cons.mp hm with rfl | hm
      · exact E18.cls
      rcases List.mem_cons.mp hm with rfl | hm
      · exact E19.cls
      rcases List.mem_cons.mp hm with rfl | hm
      · exact E20.cls
      rcases List.mem_cons.mp hm with rfl | hm
      · exact E21.cls
      rcases List.mem_cons.mp hm with rfl | hm
      · exact E22.cls
      rcases List.mem_cons.mp hm with rfl | hm
      · exact E23.cls
      rcases List.mem_cons.mp hm with rfl | hm
      · exact E24.cls
      rcases List.mem_cons.mp hm with rfl | hm
      · exact E25.cls
      rcases List.mem_cons.mp hm with rfl | hm
      · exact E26.cls
      cases hm
  have GD := ok_draw (P := L.prog) (w := w) (K := K) (base := base) (fun_of F2) tN
  refine ok_law (g := He.ga K) (cM := He.ga K "MilesError") (cI := He.ga K "Missing") f0 ?_
  exact {
    src := ⟨_, _, ok_source (fun_of F1) tN, (gl 1 rfl), F1.kp, b1⟩
    draw := ⟨_, _, GD, (gl 2 rfl), F2.kp, b2⟩
    of_ := ⟨_, _, ok_of (P := L.prog) (w := w) (K := K) (base := base) (fun_of F3) tN (fun_of F2) (gl 2 rfl) b2, (gl 3 rfl), F3.kp, b3⟩
    same := ⟨_, _, ok_same (fun_of F4) tN, (gl 4 rfl), F4.kp, b4⟩
    fields := ⟨_, _, ok_fields (fun_of F5), (gl 5 rfl), F5.kp, b5⟩
    first := ⟨_, _, ok_first (fun_of F6) kT (fr 42 rfl), (gl 6 rfl), F6.kp, b6⟩
    last := ⟨_, _, ok_last (fun_of F7) kT (fr 42 rfl), (gl 7 rfl), F7.kp, b7⟩
    kinds := kT
    e0 := E0
    e1 := E1
    e2 := E2
    e3 := E3
    e4 := E4
    e5 := E5
    e6 := E6
    e7 := E7
    e8 := E8
    e9 := E9
    e10 := E10
    e11 := E11
    e12 := E12
    e13 := E13
    e14 := E14
    e15 := E15
    e16 := E16
    e17 := E17
    e18 := E18
    e19 := E19
    e20 := E20
    e21 := E21
    e22 := E22
    e23 := E23
    e24 := E24
    e25 := E25
    e26 := E26
    kM := fun i a h => kind1_ok m56 h
    kV := fun i a h => kind1_ok m57 h
    kI := fun i a h => kind1_ok m58 h
    kL := fun i a h => kind1_ok m59 h
    kX := fun i a h => kind1_ok m60 h
    gM := (gl 36 rfl)
    gI := (gl 37 rfl)
    bV := (fr 46 rfl)
    bL := (fr 47 rfl)
    bI := (fr 48 rfl)
    isi := (fr 42 rfl)
    rng := (fr 43 rfl) }
end Lw

set_option maxRecDepth 100000
set_option maxHeartbeats 0
open PySem PySem.W PySem.Calls PyProof.Rows
theorem PySem.Challenge.cw_missingmiles_k01_errors_by_themselves_holds : PySem.Challenge.rw_missingmiles_k01_errors_by_themselves.Holds := by
  w_on; o_law
  refine HandSHeadRun.head_any (r := OpenLaw.row PySem.Challenge.rw_missingmiles_k01_errors_by_themselves) (q := view (OpenLaw.row PySem.Challenge.rw_missingmiles_k01_errors_by_themselves).prog [40]) (H := Lw.hk) (ob := Lw.ob) (M := 12000) (loose := Lw.loose)
    (d := HandSHeadRun.topDef (OpenLaw.row PySem.Challenge.rw_missingmiles_k01_errors_by_themselves).prog 40) (kwd := []) Lw.ob_eq (by kernel_rfl) (fun s => by kernel_rfl) Lw.run
    (by kernel_rfl) (by kernel_rfl) (by kernel_rfl) (by rfl) (by first | assumption | decide +kernel) (by decide +kernel) ⟨rfl, rfl, rfl, rfl, rfl, by decide +kernel⟩ ?hw ?hc
  case hw => w_witness2
  case hc =>
    refine VG.walkGE (l := PySem.Challenge.rw_missingmiles_k01_errors_by_themselves) (n := 63) (k := 7) (x := "_law_script") (CX := fun _ => L2.CX0) rfl (by decide) (by kernel_rfl) ⟨rfl, by decide, by decide⟩ ?F (fun _ _ _ _ _ z => z)
    intro w mg fa h Y G hmg0
    obtain ⟨K, KX, c⟩ := Y
    have e : (HandSHeadRun.topDef (OpenLaw.row PySem.Challenge.rw_missingmiles_k01_errors_by_themselves).prog 40).name = ("law" : PySem.Str) := by kernel_rfl
    rw [e] at hmg0
    exact ⟨K, KX, Lw.facts KX G hmg0 c⟩

