import PyProof.Rows.All
import Wide.All
import OpenK.AllK
import Wide.FinOn
import PyProof.ReprBulk
import HandS.Base
import HandS.Call
import HandS.List
import HandS.Ends
import HandS.Words
import HandS.Lambda
import HandS.EndBits
import HandS.EndTab
import HandS.Defaults
import HandS.Deep
import HandS.TupAny
import HandS.Exc
import HandS.ExcInit
import HandS.WordsExc
import HandS.TryOnly
import KE.KExcSuper
import KE.KExcMake
import HandS.ClsMeth
import KE.KTypeName
import KE.KTryMore
import HandS.HotCalls
import HandS.ExcField
import HandS.ForMost
import HandS.Walk
import HandS.IsInst
import HandS.HeadHook4
import HandS.Star
import HandS.SlotsOwn
import PyProof.InstNe
import OpenK.KOps
import HandS.Wide
import HandS.Codes
import HandS.StrMore
import PySem.Challenge.RW_missingmiles_k47_means_told
import HandS.Gcd
import HandS.FStr
import HandS.MakeKwOnly
import HandS.Style
import HandS.Head0
import HandS.Head1
import HandS.Head2
import HandS.Head3
set_option Elab.async false
set_option maxRecDepth 100000
/-! Data that is small enough to be shown; calls made where no repr is under way; the law's end for such calls. -/
namespace VG
open PySem PySem.Spec PyProof.Rows L2

/-! ### small data -/
mutual
def sm : PyData → Bool
  | .none => true
  | .bool _ => true
  | .int i => decide (i.natAbs < 10 ^ 90)
  | .str x => PyData.strOk x
  | .list xs => smAll xs
  | .tuple xs => smAll xs
  | .dict _ => false
def smAll : List PyData → Bool
  | [] => true
  | x :: xs => sm x && smAll xs
end
theorem pow90 : (10 : Nat) ^ 90 < 2 ^ 1900 := by decide +kernel
theorem log_of {n : Nat} (h : n < 10 ^ 90) : n.log2 < 1920 := by
  by_cases z : n = 0
  · subst z
    decide
  · have q : n.log2 < 1900 := (Nat.log2_lt z).mpr (Nat.lt_trans h pow90)
    exact Nat.lt_of_lt_of_le q (by decide)
theorem signs_small {x : Str} (h : PyData.strOk x = true) : ∀ c ∈ x.cps.toList, c < 16 ^ 8 := fun c hc => by
  have q := Array.all_eq_true_iff_forall_mem.mp h c (Array.mem_toList_iff.mp hc)
  have q2 : c < 1114112 := of_decide_eq_true q
  exact Nat.lt_trans q2 (by decide)
theorem int_len {i : Int} (h : i.natAbs < 10 ^ 90) : (PyData.int i).shown.length ≤ 100 := by
  rw [PyData.shown_int, _root_.PySem.ofString_length]
  exact Nat.le_trans (int_text_length_le10 (k := 90) (by decide) h) (by decide)
mutual
theorem sm_all : ∀ d : PyData, sm d = true → (d.showable = true ∧ d.hasDict = false) ∧ d.leavesShort 100 = true ∧ d.canLay0 = true
  | .none, _ => ⟨⟨rfl, rfl⟩, rfl, rfl⟩
  | .bool _, _ => ⟨⟨rfl, rfl⟩, rfl, rfl⟩
  | .int i, h => by
    have q : i.natAbs < 10 ^ 90 := of_decide_eq_true (by simpa only [sm] using h)
    exact ⟨⟨by simp only [PyData.showable]; exact decide_eq_true (log_of q), by simp only [PyData.hasDict]⟩, by simp only [PyData.leavesShort]; exact decide_eq_true (int_len q), by simp only [PyData.canLay0]⟩
  | .str x, h => by
    have q : PyData.strOk x = true := by simpa only [sm] using h
    refine ⟨⟨by simp only [PyData.showable], by simp only [PyData.hasDict]⟩, ?_, by simp only [PyData.canLay0]; exact q⟩
    simp only [PyData.leavesShort]
    exact List.all_eq_true.mpr fun c hc => decide_eq_true (signs_small q c hc)
  | .list xs, h => by
    obtain ⟨⟨a, b⟩, c, e⟩ := sm_alls xs (by simpa only [sm] using h)
    exact ⟨⟨by simp only [PyData.showable]; exact a, by simp only [PyData.hasDict]; exact b⟩, by simp only [PyData.leavesShort]; exact c, by simp only [PyData.canLay0]; exact e⟩
  | .tuple xs, h => by
    obtain ⟨⟨a, b⟩, c, e⟩ := sm_alls xs (by simpa only [sm] using h)
    exact ⟨⟨by simp only [PyData.showable]; exact a, by simp only [PyData.hasDict]; exact b⟩, by simp only [PyData.leavesShort]; exact c, by simp only [PyData.canLay0]; exact e⟩
  | .dict _, h => by simp [sm] at h
theorem sm_alls : ∀ xs : List PyData, smAll xs = true → (PyData.showableAll xs = true ∧ PyData.hasDictAll xs = false) ∧ PyData.leavesShortAll 100 xs = true ∧ PyData.canLayAll0 xs = true
  | [], _ => ⟨⟨rfl, rfl⟩, rfl, rfl⟩
  | x :: xs, h => by
    have h' : sm x = true ∧ smAll xs = true := by simpa only [smAll, Bool.and_eq_true] using h
    obtain ⟨⟨a, b⟩, c, e⟩ := sm_all x h'.1
    obtain ⟨⟨a', b'⟩, c', e'⟩ := sm_alls xs h'.2
    simp only [PyData.showableAll, PyData.hasDictAll, PyData.leavesShortAll, PyData.canLayAll0, a, b, c, e, a', b', c', e', Bool.and_self, Bool.or_self, and_self]
end
/-- d may be shown, and compared: its leaves are small, it is neither deep nor long -/
structure Sm (d : PyData) : Prop where
  sm : sm d = true
  dp : d.depth ≤ 40
  bk : d.bulk ≤ 100000
theorem Sm.fits {d : PyData} (h : Sm d) : d.shown.length ≤ sizeLine := by
  have q := PyData.shown_le_bulk 100 (by decide) d (sm_all d h.sm).2.1
  have b := h.bk
  have e : (100 + 2) * d.bulk ≤ 102 * 100000 := Nat.mul_le_mul (by decide) b
  rw [sizeLine_eq]
  omega
theorem Sm.shaped {d : PyData} (h : Sm d) : SeqAt.shaped d = true := by
  have e := (sm_all d h.sm).2.2
  have f : d.depth ≤ 64 := Nat.le_trans h.dp (by decide)
  show (d.canLay0 && decide (d.depth ≤ 64)) = true
  rw [e, decide_eq_true f]
  rfl

/-! ### repr of data, where no repr is under way -/
def rRepr (K : PySem.W.Frag) : List V → Hp → VK → Prop := fun xs H Q => ∃ x d, xs = [x] ∧ Dp K H x d ∧ Sm d ∧ Q (.str d.shown) H
section
variable {X : Cx}
theorem call_repr (hG : X.A.guards = some []) (hu : X.A.units + 64 < cLine) : CallR X (.builtin "repr") (rRepr X.K) := by
  intro pins s σ H xs us Q I r h
  obtain ⟨x, d, rfl, hd, hS, q⟩ := h
  obtain ⟨u, rfl, r1⟩ := vals1 r
  have fit := hS.fits
  obtain ⟨⟨hs, hn⟩, _, _⟩ := sm_all d hS.sm
  obtain ⟨as, rd⟩ := Dp.reads I d x u hd r1
  cases hd with
  | non =>
    cases r1
    refine PySem.P.repr_of_none ⟨.str _, H, I.tok _, ⟨_, rfl⟩, ?_⟩
    rw [PyData.shown_none] at q
    exact q
  | bl b =>
    cases r1
    refine PySem.P.repr_of_bool ⟨.str _, H, I.tok _, ⟨_, rfl⟩, ?_⟩
    rw [PyData.shown_bool] at q
    cases b <;> exact q
  | int i =>
    obtain ⟨t, rfl⟩ := r1
    have z : i.natAbs < 10 ^ 90 := of_decide_eq_true (by simpa only [VG.sm] using hS.sm)
    exact PySem.P.repr_of_int (log_of z) ⟨.str _, H, I.tok _, ⟨_, rfl⟩, by rw [PyData.shown_int] at q; exact q⟩
  | str y =>
    obtain ⟨t, rfl⟩ := r1
    rw [PyData.shown_str] at q fit
    exact PySem.P.repr_of_str ⟨.str _, H, I.tok _, ⟨_, rfl⟩, q⟩ fit
  | lst hl ha =>
    cases r1
    exact repr_of_reads' rd hs (PyData.noDict_hsm hn) hG (by have := hS.dp; omega) (fun _ _ e => e) (fun h' u tk hk => ⟨.str _, H, I.kept hk, ⟨_, rfl⟩, q⟩) fit
  | tup hl ha =>
    cases r1
    exact repr_of_reads' rd hs (PyData.noDict_hsm hn) hG (by have := hS.dp; omega) (fun _ _ e => e) (fun h' u tk hk => ⟨.str _, H, I.kept hk, ⟨_, rfl⟩, q⟩) fit
end

/-! ### defs that are called where no repr is under way -/
structure FnG (P : Program) (w : World) (K : PySem.W.Frag) (mg : Str → Option Value) (base : Heap) (CX : CXT) (k : Nat) (f : Addr) (fd : FuncData) (ps : List Str) (sp : Sp) : Prop where
  many : ∀ vs H Q E, sp vs H Q E → vs.length = ps.length
  runs : ∀ (A : Around) (outer : List Env) (s : Shared) (H : Hp) (args : Args) (us : List Value) (vs : List V) (Q : VK) (E : XK), A.guards = some [] → Room k A → Env0 P w K mg base A outer s H →
    BindsTo s fd args (ps.zip us) → Vals vs us → sp vs H Q E → codeAny (model P w) A (.call (.ref f) args) (CR CX outer P w H s Q E) s
section
variable {P : Program} {w : World} {K : PySem.W.Frag} {mg : Str → Option Value} {base : Heap}
theorem okG {x qual : Str} {st : Stmt} {f : Addr} {fd : FuncData} {N ps : List Str} {k : Nat} {sp : Sp} (F : Fun K x qual st f fd) (S : FnScope N ps (defScope st)) (many : ∀ vs H Q E, sp vs H Q E → vs.length = ps.length)
    (body : ∀ (cdv : Value) (A : Around) (outer : List Env) (s : Shared) (H : Hp) (vs : List V) (Q : VK) (E : XK), A.guards = some [] → Room k (A.deeper (envOfC qual (defScope st) s.heap.objs.size f cdv)) → sp vs H Q E →
      ∃ t, PSs (cxOf CX0 P w K mg base N qual (defScope st) f cdv A outer s H E).nox (defBody st) t ∧
        t { nx := fun _ H' => Q .non H', rt := Q } (L2.start N vs) H) : FnG P w K mg base CX0 (k + 1) f fd ps sp := by
  obtain ⟨oc, od, kV, doc, pm, an, cdv, ct, osl, rfl, lk, hcd⟩ := F.ex
  refine ⟨many, fun A outer s H args us vs Q E hG hr e0 hb r q => ?_⟩
  refine LamX.run_ofS lk hcd S hr e0 hb r (many _ _ _ _ q) fun hr' => ?_
  obtain ⟨t, h1, h2⟩ := body cdv A outer s H vs Q E hG hr' q
  exact ⟨t, h1.nox, h2⟩
end
section
variable {X : Cx} {CX : CXT} {k : Nat} {f : Addr} {fd : FuncData} {ps : List Str} {sp : Sp} {dvs : List V} {ds : List Value} {E : XK} {x : Str} {p pos : Pos} {e : Expr} {es : List Expr} {t : TA}
theorem pe_callG (F : FnG X.prog X.w X.K X.mg X.base CX k f fd ps sp) (hG : X.A.guards = some []) (hr : Room k X.A) (hg : Gl X x) (hm : X.mg x = some (.ref f)) (hk : PySem.W.keepIn X.K (.ref f) = true) (hb : Binds X.K fd ps ds) (hd : Vals dvs ds)
    (hx : Passes CX X E) (ha : PA X (e :: es) t) (n1 : (x == ("__debug__" : Str)) = false := by decide) (n2 : starEach (e :: es) X.env = (false, eval e X.env) :: starEach es X.env := by rfl)
    (n3 : (backTo pos (starEach es X.env)).any (·.1) = false := by rfl) : PE X (.Call (.Name x p) (e :: es) [] pos) (tCall sp dvs E t) := by
  refine ⟨fun pins s σ H Q I q0 => wpAny_Call_Name_kw (ld_glob I hg hm (PySem.W.callWith_K (h₀ := X.base) I.ok.mod.kin hk (thn (ha.run pos pins s σ H _ I q0) fun us s1 ⟨vs, H1, I1, r, q⟩ => ⟨I1.kIn, ?_⟩) n2 n3) n1)⟩
  have r2 : Vals (vs ++ dvs) (us ++ ds) := r.append hd
  have l2 : (us ++ ds).length = ps.length := r2.length.symm.trans (F.many _ _ _ _ q)
  refine wpAny_call (codeAny_mono (F.runs X.A X.stack s1 H1 ⟨us, []⟩ (us ++ ds) (vs ++ dvs) Q E hG hr I1.env0 (hb s1 us I1.kIn l2) r2 q) fun res s' z => ?_)
  match res, z with
  | .error err, z => exact hx pins σ H1 s1 err s' I1 z
  | .ok (.ret u), z => exact I1.after z
  | .ok .next, z => exact z.elim
  | .ok .brk, z => exact z.elim
  | .ok .cont, z => exact z.elim
end
end VG

set_option maxRecDepth 100000
/-! The law's end where the law's promise asks that no repr is under way. -/
namespace VG
open PySem PySem.Spec PyProof.Rows L2 LamX

def tabObj : Obj := { cls := .none, data := .fields #[] }
def scriptObj (vs : List Value) : Obj := { cls := .type "list", data := .seq vs.toArray }
/-- what is tracked where the law is called: the tables, and the script where sc says so -/
def laidAt (cs : List (Addr × Addr)) (a : Addr) (vs : List Value) (ns : List Int) (sc : Bool) : Hp := fun b =>
  if b ∈ cs.map (·.2) then some (.tbl #[]) else if sc = true ∧ b = a then some (.frz (scriptObj vs) (.lst (ns.map V.int))) else none
theorem laid_tab {cs : List (Addr × Addr)} {a : Addr} {vs : List Value} {ns : List Int} {sc : Bool} {b : Addr} (h : b ∈ cs.map (·.2)) : laidAt cs a vs ns sc b = some (.tbl #[]) := if_pos h
theorem laid_script {cs : List (Addr × Addr)} {a : Addr} {vs : List Value} {ns : List Int} (h : a ∉ cs.map (·.2)) : laidAt cs a vs ns true a = some (.frz (scriptObj vs) (.lst (ns.map V.int))) := by
  unfold laidAt
  rw [if_neg h, if_pos ⟨rfl, rfl⟩]
theorem laid_cases {cs : List (Addr × Addr)} {a : Addr} {vs : List Value} {ns : List Int} {sc : Bool} {b : Addr} {u : HO} (h : laidAt cs a vs ns sc b = some u) :
    (b ∈ cs.map (·.2) ∧ u = .tbl #[]) ∨ (sc = true ∧ b = a ∧ u = .frz (scriptObj vs) (.lst (ns.map V.int))) := by
  unfold laidAt at h
  by_cases h1 : b ∈ cs.map (·.2)
  · rw [if_pos h1] at h
    exact .inl ⟨h1, (Option.some.inj h).symm⟩
  · rw [if_neg h1] at h
    by_cases h2 : sc = true ∧ b = a
    · rw [if_pos h2] at h
      exact .inr ⟨h2.1, h2.2, (Option.some.inj h).symm⟩
    · rw [if_neg h2] at h
      cases h

theorem law_runG {P : Program} {w : World} {K : PySem.W.Frag} {mg mb : Str → Option Value} {CX : CXT} {k : Nat} {fa a : Addr} {cs : List (Addr × Addr)} {fd : FuncData} {x : Str} {sp : Sp} {s₁ : Shared} {vs : List Value} {ns : List Int}
    (KX : K.In s₁.heap) (hns : s₁.heap.Ns mainGlobals mg) (hb : s₁.heap.Ns builtinsNs mb) (hbb : ∀ x : Str, x ≠ "__name__" → mb x = bootBuiltins x) (hlim : s₁.heap.NoLimit)
    (hgen : s₁.gens = #[]) (hT : ∀ p ∈ cs, s₁.heap.get? p.2 = some tabObj) (nT : ∀ p ∈ cs, K.lookup p.2 = none) (C : ∀ p ∈ cs, PySem.W.CodeHd s₁.heap p.1 p.2)
    (hbm : ∃ (bm : Addr) (ob : Obj), mg "__builtins__" = some (.ref bm) ∧ bm ≠ builtinsNs ∧
      s₁.heap.get? bm = some ob ∧ ob.cls = .type "module" ∧ ob.dict = some builtinsNs ∧ ob.data = .plain)
    (ha : s₁.heap.get? a = some (scriptObj vs)) (hi : IntsAre vs ns) (hl : ns.length ≤ sizeLine) (hr : Room k callerA)
    (F : ∀ base : Heap, K.In base → base.Ns mainGlobals mg → (∀ p ∈ cs, TabB base mg p.1 p.2) → FnG P w K mg base CX k fa fd [x] sp)
    (bind1 : ∀ (s : Shared) (u : Value), BindsTo s fd ⟨[u], []⟩ [(x, u)])
    (kept : ∀ H : Hp, (∀ p ∈ cs, H p.2 = some (.tbl #[])) → SqL K H a (ns.map V.int) → sp [.ref a] H (fun v _ => v = .bl true) fun _ _ _ => False)
    (noX : ∀ H e s', CX [] H s₁ (fun _ _ _ => False) e s' → False) :
    codeAny (model P w) callerA (.call (.ref fa) ⟨[.ref a], []⟩)
      (fun r s' => r = .ok (.ret (.bool true)) ∧ OldK s₁.heap s'.heap ∧ s'.os = s₁.os ∧ AllBare s'.gens) s₁ := by
  have rv : Vals (ns.map V.int) vs := vals_ints hi
  have tabOf : ∀ b, b ∈ cs.map (·.2) → ∃ p ∈ cs, p.2 = b := fun b z => List.mem_map.mp z
  have inTab : ∀ p ∈ cs, p.2 ∈ cs.map (·.2) := fun p hp => List.mem_map.mpr ⟨p, hp, rfl⟩
  have atTab : ∀ b, b ∈ cs.map (·.2) → s₁.heap.get? b = some tabObj := fun b z => by
    obtain ⟨p, hp, rfl⟩ := tabOf b z
    exact hT p hp
  have aNo : a ∉ cs.map (·.2) := fun z => by
    have q := ha.symm.trans (atTab a z)
    have q2 : Data.seq vs.toArray _ = Data.fields #[] := congrArg Obj.data (Option.some.inj q)
    cases q2
  -- sc: is the script tracked (else it is one of the module's own objects)
  obtain ⟨sc, hsc, hseq⟩ : ∃ sc : Bool, (sc = true → K.lookup a = none) ∧ SqL K (laidAt cs a vs ns sc) a (ns.map V.int) := by
    cases hk : K.lookup a with
    | none => exact ⟨true, fun _ => rfl, .inl (.inr ⟨_, laid_script aNo⟩)⟩
    | some o =>
      have q := ha.symm.trans (KX a o hk)
      cases q
      refine ⟨false, fun z => (nomatch z), .inr ⟨_, vs.toArray, _, hk, rfl, rfl, rfl, ?_, by simpa using rv⟩⟩
      rw [List.size_toArray]
      exact hi.length ▸ hl
  generalize hH : laidAt cs a vs ns sc = H at hseq
  have tabH : ∀ p ∈ cs, H p.2 = some (.tbl #[]) := fun p hp => by
    rw [← hH]
    exact laid_tab (inTab p hp)
  have casesH : ∀ {b u}, H b = some u → (b ∈ cs.map (·.2) ∧ u = .tbl #[]) ∨ (sc = true ∧ b = a ∧ u = .frz (scriptObj vs) (.lst (ns.map V.int))) := fun {b u} q => by
    rw [← hH] at q
    exact laid_cases q
  have hok : HOk P w H s₁.heap := fun b u q => by
    rcases casesH q with ⟨z, rfl⟩ | ⟨_, rfl, rfl⟩
    · exact atTab b z
    · exact ⟨ha, by rw [List.length_map]; exact hl, vs, _, rv, ha⟩
  -- an object of another data is not tracked
  have other : ∀ {b : Addr} {o : Obj}, s₁.heap.get? b = some o → o.data ≠ tabObj.data → o.data ≠ (scriptObj vs).data → H b = none := fun {b o} e n1 n2 => by
    cases q : H b with
    | none => rfl
    | some u =>
      rcases casesH q with ⟨z, _⟩ | ⟨_, z, _⟩
      · exact (n1 (congrArg Obj.data (Option.some.inj (e.symm.trans (atTab b z))))).elim
      · exact (n2 (congrArg Obj.data (Option.some.inj (e.symm.trans (z ▸ ha))))).elim
  have keeps : ∀ {b : Addr} {o : Obj}, s₁.heap.get? b = some o → o.data ≠ tabObj.data → o.data ≠ (scriptObj vs).data → (hidT s₁.heap H).get? b = some o := fun e n1 n2 => hidT_get e (other e n1 n2)
  have nsK : ∀ {b : Addr} {m : Str → Option Value}, s₁.heap.Ns b m → (hidT s₁.heap H).Ns b m := fun ⟨o, es, ep, e, d, r⟩ =>
    ⟨o, es, ep, keeps e (fun z => by rw [d] at z; cases z) (fun z => by rw [d] at z; cases z), d, r⟩
  have hKb : K.In (hidT s₁.heap H) := fun b o e => hidT_get (KX b o e) (by
    cases q : H b with
    | none => rfl
    | some u =>
      rcases casesH q with ⟨z, _⟩ | ⟨z1, z, _⟩
      · obtain ⟨p, hp, rfl⟩ := tabOf b z
        rw [nT p hp] at e
        cases e
      · rw [z, hsc z1] at e
        cases e)
  have hM : L2.Mod K mg (hidT s₁.heap H) := ⟨hKb, nsK hns, ⟨mb, nsK hb, hbb⟩, let ⟨mc, h1, h2⟩ := hlim; ⟨mc, nsK h1, h2⟩⟩
  have TB : ∀ p ∈ cs, TabB (hidT s₁.heap H) mg p.1 p.2 := fun p hp => by
    refine ⟨?_, ?_, fun z => ?_⟩
    · obtain ⟨o, us, file, tf, flags, tg, inF, text, tt, e1, r1, r2, r3, r4, r5, r6, r7, r8, hne⟩ := C p hp
      refine ⟨o, us, file, tf, flags, tg, inF, text, tt, keeps e1 (fun z => ?_) (fun z => ?_), r1, r2, r3, r4, r5, r6, r7, r8, hne⟩
      · have z2 := r2.symm.trans z
        cases z2
        simp at r3
      · have z2 := r2.symm.trans z
        cases z2
    · obtain ⟨bm, ob, b1, b2, b3, b4, b5, b6⟩ := hbm
      refine ⟨bm, ob, b1, b2, fun q => ?_, fun q => ?_, keeps b3 (fun z => ?_) (fun z => ?_), b4, b5, b6⟩
      · obtain ⟨o, es, ep, e, hd, _⟩ := hns
        have z := Option.some.inj ((q ▸ b3).symm.trans e)
        rw [← z, b6] at hd
        cases hd
      · have z := Option.some.inj ((q ▸ b3).symm.trans (hT p hp))
        rw [z] at b6
        cases b6
      · have z2 := b6.symm.trans z
        cases z2
      · have z2 := b6.symm.trans z
        cases z2
    · obtain ⟨o, es, ep, e, hd, _⟩ := hns
      have z2 := Option.some.inj ((z ▸ e).symm.trans (hT p hp))
      rw [z2] at hd
      cases hd
  have e0 : Env0 P w K mg (hidT s₁.heap H) callerA [] s₁ H :=
    ⟨rfl, hM, fun b o e => of_hidT e, Nat.le_of_eq (hidT_size _ _), trivial, fun b z => absurd (show b ∈ ([] : List Addr) from z) (by simp), hok, .of_eq hgen⟩
  refine codeAny_mono ((F _ hKb (nsK hns) TB).runs callerA [] s₁ H ⟨[.ref a], []⟩ [.ref a] [.ref a] _ _ rfl hr e0 (bind1 s₁ (.ref a)) (.cons rfl .nil) (kept H tabH hseq)) fun r s' z => ?_
  match r, z with
  | .error e, z => exact (noX H e s' z).elim
  | .ok .next, z => exact z.elim
  | .ok .brk, z => exact z.elim
  | .ok .cont, z => exact z.elim
  | .ok (.ret u), z =>
    obtain ⟨v, H', os, bare, un, hok', r', q⟩ := z
    have q1 : v = .bl true := q
    subst q1
    obtain rfl : u = Value.bool true := r'
    -- all but the tables is as it was
    have old : ∀ b o, b ∉ cs.map (·.2) → s₁.heap.get? b = some o → s'.heap.get? b = some o := fun b o nb e => by
      cases q : H b with
      | none => exact un.keep b o e q (fun z => absurd (show b ∈ ([] : List Addr) from z) (by simp)) (by simp)
      | some u =>
        rcases casesH q with ⟨z, _⟩ | ⟨_, rfl, rfl⟩
        · exact absurd z nb
        · obtain ⟨e2, _⟩ := hok' b _ (un.frzs b _ _ q)
          rw [ha] at e
          rw [← e]
          exact e2
    have grew : ∀ p ∈ cs, ∃ more : Array Value, s'.heap.get? p.2 = some { cls := .none, data := .fields more } := fun p hp => by
      obtain ⟨more, z⟩ := un.tbls p.2 #[] (tabH p hp)
      exact ⟨_, hok' p.2 _ z⟩
    refine ⟨rfl, ⟨fun b o e => ?_, fun b o e => ?_⟩, os, bare⟩
    · by_cases z : b ∈ cs.map (·.2)
      · obtain ⟨p, hp, rfl⟩ := tabOf b z
        obtain ⟨more, hm⟩ := grew p hp
        have e2 := Option.some.inj (e.symm.trans (hT p hp))
        rw [e2]
        exact .inr (.inl ⟨((C p hp).tab (hT p hp)).isCodeTable, rfl, #[], more, rfl, by rw [Array.empty_append]; exact hm⟩)
      · exact .inl (old b o z e)
    · by_cases z : b ∈ cs.map (·.2)
      · obtain ⟨p, hp, rfl⟩ := tabOf b z
        obtain ⟨more, hm⟩ := grew p hp
        exact ⟨_, hm⟩
      · exact ⟨o, old b o z e⟩

/-- what is known of the law's promise at the head's heap h -/
def LawG (l : PySem.W.OpenLaw) (w : World) (K : PySem.W.Frag) (CX : CXT) (k n : Nat) (x : Str) (mg : Str → Option Value) (fa : Addr) (h : Heap) : Prop :=
  ∃ (fd : FuncData) (cs : List (Addr × Addr)) (sp : Sp), (∀ p ∈ cs, h.get? p.2 = some tabObj) ∧ (∀ p ∈ cs, K.lookup p.2 = none) ∧ (∀ p ∈ cs, PySem.W.CodeHd h p.1 p.2) ∧
    (∀ (s : Shared) (u : Value), BindsTo s fd ⟨[u], []⟩ [(x, u)]) ∧
    (∀ (H : Hp) (a : Addr) (ns : List Int), ns.length ≤ n → (∀ z ∈ ns, Builtin.Int.intBits z ≤ 1048576) → (∀ p ∈ cs, H p.2 = some (.tbl #[])) → SqL K H a (ns.map V.int) →
      sp [.ref a] H (fun v _ => v = .bl true) fun _ _ _ => False) ∧
    ∀ base : Heap, K.In base → base.Ns mainGlobals mg → (∀ p ∈ cs, TabB base mg p.1 p.2) → FnG l.prog w K mg base CX k fa fd [x] sp
theorem walkG {l : PySem.W.OpenLaw} {n k : Nat} {q : Program} {loose : List Str} {XP : (Str → Option Value) → Heap → Prop} {YP : World → Heap → Prop} {d : DefRec} {K : Params → PySem.W.Frag} {CX : World → CXT} {x : Str}
    (hn : l.most = some n) (hn2 : n ≤ sizeLine) (hdf : d.params.defaults = []) (hr : Room k callerA)
    (hY : ∀ (w : World) (h : Heap), YP w h → (K w.params).In h)
    (F : ∀ (w : World) (mg : Str → Option Value) (fa : Addr) (h : Heap), YP w h → (K w.params).In h → h.Ns mainGlobals mg → mg d.name = some (.ref fa) →
      LawG l w (K w.params) (CX w) k n x mg fa h)
    (noX : ∀ (w : World) (H : Hp) (s : Shared) (e : Value) (s' : Shared), CX w [] H s (fun _ _ _ => False) e s' → False) :
    PySem.W.WalkO q loose XP YP l.row.toRowW d [] (fun f vs => PySem.call f vs) :=
  Att.attach_callB hn hdf fun w s₀ s₁ mg mb fa o pm cd doc a vs ns G Y ho hd hcd hmg hobj hints hlen hbits hg => by
    obtain ⟨fd, cs, sp, hT, nT, C, hb, hsp, hF⟩ := F w mg fa _ Y (hY w _ Y) G.T.g hmg
    exact law_runG (hY w _ Y) G.T.g G.T.b G.T.builtins G.T.nolimit hg hT nT C G.T.bmain hobj hints (Nat.le_trans hlen hn2) hr hF hb (fun H hH hS => hsp H a ns hlen hbits hH hS) fun H e s' => noX w H s₁ e s'
theorem walkGE {l : PySem.W.OpenLaw} {n k : Nat} {q : Program} {loose : List Str} {XP : (Str → Option Value) → Heap → Prop} {YP : World → Heap → Prop} {d : DefRec} {CX : World → CXT} {x : Str}
    (hn : l.most = some n) (hn2 : n ≤ sizeLine) (hdf : d.params.defaults = []) (hr : Room k callerA)
    (F : ∀ (w : World) (mg : Str → Option Value) (fa : Addr) (h : Heap), YP w h → h.Ns mainGlobals mg → mg d.name = some (.ref fa) →
      ∃ K : PySem.W.Frag, K.In h ∧ LawG l w K (CX w) k n x mg fa h)
    (noX : ∀ (w : World) (H : Hp) (s : Shared) (e : Value) (s' : Shared), CX w [] H s (fun _ _ _ => False) e s' → False) :
    PySem.W.WalkO q loose XP YP l.row.toRowW d [] (fun f vs => PySem.call f vs) :=
  Att.attach_callB hn hdf fun w s₀ s₁ mg mb fa o pm cd doc a vs ns G Y ho hd hcd hmg hobj hints hlen hbits hg => by
    obtain ⟨K, KX, fd, cs, sp, hT, nT, C, hb, hsp, hF⟩ := F w mg fa _ Y G.T.g hmg
    exact law_runG KX G.T.g G.T.b G.T.builtins G.T.nolimit hg hT nT C G.T.bmain hobj hints (Nat.le_trans hlen hn2) hr hF hb (fun H hH hS => hsp H a ns hlen hbits hH hS) fun H e s' => noX w H s₁ e s'
end VG

set_option maxRecDepth 100000
/-! Calls by keywords alone; x in a tuple of data; data in a heap that has grown. -/
namespace VG
open PySem PySem.Spec PyProof.Rows L2
section
variable {X : Cx} {CX : CXT} {k : Nat} {f : Addr} {fd : FuncData} {ps ks : List Str} {sp : Sp} {E : XK} {x : Str} {p pos : Pos} {kws : List Keyword} {tk : TA} {g : List Value → List Value → List Value} {gV : List V → List V → List V}
/-- f(k = v, ..) -/
theorem pe_callN0 (F : FnOk X.prog X.w X.K X.mg X.base CX k f fd ps sp) (hr : Room k X.A) (hg : Gl X x) (hm : X.mg x = some (.ref f)) (hk : PySem.W.keepIn X.K (.ref f) = true) (hb : KBn X.K fd ps 0 ks g gV)
    (hx : Passes CX X E) (hkw : PK X kws tk) (n1 : (backToKw pos (keywordEach kws X.env)).all (·.1.isSome) = true := by rfl) (n2 : (backToKw pos (keywordEach kws X.env)).filterMap (·.1) = ks := by rfl)
    (n3 : (x == ("__debug__" : Str)) = false := by decide) (n4 : ((backTo pos (starEach [] X.env)).any (·.1) || (backToKw pos (keywordEach kws X.env)).any (·.1.isNone)) = false := by rfl) :
    PE X (.Call (.Name x p) [] kws pos) (tCallN 0 ks.length sp gV E tNil tk) :=
  ⟨fun pins s σ H Q I h => wpAny_Call_Name_kw (ld_glob I hg hm (PySem.W.callWith_KW0 (h₀ := X.base) I.ok.mod.kin hk n1 (thn (hkw.run pos pins s σ H _ I h) fun ws s2 ⟨zs, H2, I2, rz, l1, l2, q2⟩ =>
    ⟨I2.kIn, by rw [n2]; exact run_fnN (us := []) (vs := []) F hr hb hx I2 .nil rz l1 l2 q2⟩) n4) n3)⟩
end
/-! ### how keywords bind -/
section
variable {K : PySem.W.Frag} {x qual : Str} {params : Arguments} {body : List Stmt} {scope : Scope} {dvs : List V} {kws : List (Str × V)} {f : Addr} {fd : FuncData} {ps : List Str}
/-- some defaults, no keyword-only ones -/
theorem kbindsD (F : FunD K x qual params body scope dvs kws f fd) (n : Nat) (ks : List Str) (g : {α : Type} → List α → List α → List α → List α) (hd : dvs ≠ [])
    (hrel : ∀ {vs ds zs : List V} {us its ws : List Value}, Vals vs us → Vals ds its → Vals zs ws → Vals (g vs ds zs) (g us its ws))
    (h : ∀ (T : Addr) (kV doc pm : Value) (an : Option Addr) (cdv ct : Value) (us its ws : List Value), us.length = n → its.length = dvs.length → ws.length = ks.length →
      ∃ k, bindArgs (PySem.W.fnOf x qual params body scope (.ref T) kV doc pm an cdv ct) ⟨us, ks.zip ws⟩ = seqItems? (.ref T) >>= k ∧ k (some its.toArray) = pure (ps.zip (g us its ws))) :
    ∃ its : List Value, KBn K fd ps n ks (fun us ws => g us its ws) (fun vs zs => g vs dvs zs) := by
  obtain ⟨oc, od, dV, kV, doc, pm, an, cdv, ct, osl, rfl, lk, hcd, hD, hK⟩ := F.ex
  rcases hD with ⟨e, _⟩ | ⟨_, T, o, its, m, rfl, lT, oT, rT⟩
  · exact absurd e hd
  · refine ⟨its, fun s us ws X l1 l2 => BindsTo.of_looks fun M => ?_, fun r1 r2 => hrel r1 rT r2⟩
    obtain ⟨k, e1, e2⟩ := h T kV doc pm an cdv ct us its ws l1 rT.length.symm l2
    rw [e1]
    exact looks_items X lT oT (.of_pure e2)
/-- no defaults at all -/
theorem kbindsN (F : FunD K x qual params body scope [] kws f fd) (n : Nat) (ks : List Str) (g : {α : Type} → List α → List α → List α)
    (hrel : ∀ {vs zs : List V} {us ws : List Value}, Vals vs us → Vals zs ws → Vals (g vs zs) (g us ws))
    (h : ∀ (kV doc pm : Value) (an : Option Addr) (cdv ct : Value) (us ws : List Value), us.length = n → ws.length = ks.length →
      bindArgs (PySem.W.fnOf x qual params body scope .none kV doc pm an cdv ct) ⟨us, ks.zip ws⟩ = pure (ps.zip (g us ws))) : KBn K fd ps n ks (fun us ws => g us ws) (fun vs zs => g vs zs) := by
  obtain ⟨oc, od, dV, kV, doc, pm, an, cdv, ct, osl, rfl, lk, hcd, hD, hK⟩ := F.ex
  rcases hD with ⟨_, rfl⟩ | ⟨e, _⟩
  · exact ⟨fun s us ws _ l1 l2 => .of_eq (h kV doc pm an cdv ct us ws l1 l2), fun r1 r2 => hrel r1 r2⟩
  · exact absurd rfl e
theorem fun_of {st : Stmt} {f : Addr} {fd : FuncData} {kws : List (Str × V)} (F : FunD K x qual (defArgs st) (defBody st) (defScope st) [] kws f fd) : Fun K x qual st f fd := by
  obtain ⟨oc, od, dV, kV, doc, pm, an, cdv, ct, osl, e, lk, hcd, hD, hK⟩ := F.ex
  rcases hD with ⟨_, rfl⟩ | ⟨e, _⟩
  · exact ⟨⟨oc, od, kV, doc, pm, an, cdv, ct, osl, e, lk, hcd⟩, F.kp⟩
  · exact absurd rfl e
end
section
variable {X : Cx}
def rInT (K : PySem.W.Frag) (neg : Bool) : R2 := fun x y H Q => ∃ d ds, Dp K H x d ∧ Dp K H y (.tuple ds) ∧ SeqAt.shaped d = true ∧ SeqAt.shaped (.tuple ds) = true ∧
  Q (.bl (if neg then !ds.any fun z => PyData.eqv z d else ds.any fun z => PyData.eqv z d)) H
theorem room_inT {A : Around} {d : PyData} {xs : List PyData} (h : SeqAt.shaped d = true) (hu : A.units + 65 < cLine) : A.units + 1 + min (PyData.depthAll xs) d.depth < cLine := by
  have z := SeqAt.depth_of_shaped h
  have := Nat.min_le_right (PyData.depthAll xs) d.depth
  omega
theorem op_inT (hu : X.A.units + 65 < cLine) : OpR X (compareOp .In) (rInT X.K false) := by
  rintro pins s σ H x y v u Q I rx ry ⟨d, ds, hd, he, sd, se, q⟩
  obtain ⟨as, r1⟩ := Dp.reads I d x v hd rx
  obtain ⟨bs, r2⟩ := Dp.reads I (.tuple ds) y u he ry
  exact SeqAt.in_tuple_reads r2 r1 (SeqAt.canLay_of_shaped se) (SeqAt.canLay_of_shaped sd) (room_inT sd hu) ⟨.bl _, H, I, rfl, q⟩
theorem op_notInT (hu : X.A.units + 65 < cLine) : OpR X (compareOp .NotIn) (rInT X.K true) := by
  rintro pins s σ H x y v u Q I rx ry ⟨d, ds, hd, he, sd, se, q⟩
  obtain ⟨as, r1⟩ := Dp.reads I d x v hd rx
  obtain ⟨bs, r2⟩ := Dp.reads I (.tuple ds) y u he ry
  exact SeqAt.notIn_tuple_reads r2 r1 (SeqAt.canLay_of_shaped se) (SeqAt.canLay_of_shaped sd) (room_inT sd hu) ⟨.bl _, H, I, rfl, q⟩
end
theorem Same.tup {K : PySem.W.Frag} {H H' : Hp} {a : Addr} {xs : List V} (e : Same H H') (h : SqT K H a xs) : SqT K H' a xs := by
  rcases h with (h | ⟨o, h⟩) | h
  · exact .inl (.inl (e _ _ h))
  · exact .inl (.inr ⟨o, e _ _ h⟩)
  · exact .inr h
mutual
theorem Dp.same {K : PySem.W.Frag} {H H' : Hp} (e : Same H H') : ∀ (d : PyData) (v : V), Dp K H v d → Dp K H' v d
  | .none, _, h => by cases h; exact .non
  | .bool b, _, h => by cases h; exact .bl b
  | .int i, _, h => by cases h; exact .int i
  | .str x, _, h => by cases h; exact .str x
  | .list ds, _, h => by
    cases h with
    | lst a b => exact .lst (e.seq a) (DpAll.same e ds _ b)
  | .tuple ds, _, h => by
    cases h with
    | tup a b => exact .tup (Same.tup e a) (DpAll.same e ds _ b)
  | .dict _, _, h => by cases h
theorem DpAll.same {K : PySem.W.Frag} {H H' : Hp} (e : Same H H') : ∀ (ds : List PyData) (vs : List V), DpAll K H vs ds → DpAll K H' vs ds
  | [], _, h => by cases h; exact .nil
  | d :: ds, _, h => by
    cases h with
    | cons a b => exact .cons (Dp.same e d _ a) (DpAll.same e ds _ b)
end
end VG

set_option maxRecDepth 100000
/-! Own exceptions whose __init__ begins with super().__init__('..'). -/
namespace VG
open PySem PySem.Spec PyProof.Rows L2
open PySem.W (ksFn ksEnv)

/-! ### the wrapper that super().__init__ is, called -/
section
variable {prog : Program} {w : World} {A : Around} {E : Value → Shared → Prop} {h : Heap} {g : Array GenState} {d : Drawn} {t : Nat} {os : OsState} {nm q : Str} {C N : Addr} {bs bm : List Value} {hdct : Bool} {sn : List Str} {sub : List Value} {ab : Bool} {col : Option Bool} {dd : Option Addr}
  {k0 k1 k2 k3 k5 : Option Value} {B i newId : String} {bmB : List Value}
theorem call_mw (FB : ExcBaseFacts B newId i bmB) {u e t0 : Addr} {rest : List Value} {Q : Value → Shared → Prop} (hC : h.get? C = some (excClassObj nm q C N bs bm hdct sn sub ab col dd k0 k1 k2 k3 k5 newId)) (he : h.get? e = some (PySem.HandSPX.excO C t0))
    (hu : h.get? u = some (PySem.W.kxs_mw i e)) (hz : rest.length ≤ sizeLine)
    (hq : ∀ h' t1, (∀ b o, b ≠ e → h.get? b = some o → h'.get? b = some o) → h'.get? e = some (PySem.HandSPX.excO C t1) → Q .none ⟨h', g, d, t, os⟩) : wpAny (model prog w) A (call (.ref u) rest) Q E ⟨h, g, d, t, os⟩ := by
  refine wpAny_call (codeAny_of_tree ?_)
  show wpAny _ A.in1 (callAny (.ref u) ⟨rest, []⟩) _ _ _
  simp only [callAny]
  refine wpAny_bind (wpAny_load hu ?_)
  simp only [PySem.W.kxs_mw, show (Value.type "method-wrapper" == Value.type "method" || Value.type "method-wrapper" == Value.type "builtin_function_or_method" || Value.type "method-wrapper" == Value.type "method-wrapper") = true by decide, if_true]
  refine PySem.W.KFB.if_so (by decide) (wpAny_bind (PySem.W.check_bound_init FB.toExcCallFacts hC he rfl (wpAny_bind (wpAny_pure (wpAny_pure ⟨PySem.plainId_quiet FB.init.plain _, codeAny_builtin FB.initEntry ?_⟩)))))
  exact PySem.W.exc_init_tree (cls := .ref C) (t0 := t0) (dv := none) (c2 := .none) (c3 := .none) (b4 := .bool false) he hz fun h' k1 k2 _ => hq h' _ k1 k2
end

/-! ### the frame of such an __init__ -/
/-- no name of its own but the parameters; what it captures is its class alone -/
structure IniScope (ps : List Str) (sc : Scope) : Prop where
  kind : sc.kind = .function
  co : sc.isCoroutine = false
  gen : sc.isGenerator = false
  nd : ps.Nodup
  par : ∀ x ∈ ps, sc.names.lookup x = some .local
  noc : ∀ y ∈ sc.names, y.2 ≠ .cell
  fre : ∀ y ∈ sc.names, y.2 = .free → y.1 = "__class__"
  sup : sc.names.lookup ("super" : Str) = some .globalImplicit
  cls : sc.names.lookup ("__class__" : Str) = some .free
def iniCx (P : Program) (w : World) (K : PySem.W.Frag) (mg : Str → Option Value) (base : Heap) (ps : List Str) (qual : Str) (sc : Scope) (f cda cc : Addr) (A : Around) (outer : List Env) (s : Shared) (H : Hp) : Cx where
  prog := P
  w := w
  K := K
  mg := mg
  base := base
  A := A.deeper (ksEnv qual sc s.heap.objs.size f (.ref cda) cc)
  N := ps
  s_0 := s
  H_0 := H
  env := ksEnv qual sc s.heap.objs.size f (.ref cda) cc
  outer := outer
  stack := ksEnv qual sc s.heap.objs.size f (.ref cda) cc :: outer
  ex := []
  fn := fun _ => false
  calm := true
  pn := []
  xe := fun _ _ => False
theorem lookup_of_mem {x : Str} {u : Value} : ∀ {l : List (Str × Value)}, (l.map (·.1)).Nodup → (x, u) ∈ l → l.lookup x = some u
  | [], _, h => by cases h
  | (y, v) :: r, nd, h => by
    have nd' := List.nodup_cons.mp nd
    rcases List.mem_cons.mp h with e | h2
    · cases e
      simp [List.lookup]
    · have ne : (x == y) = false := by
        refine beq_eq_false_iff_ne.mpr fun z => nd'.1 ?_
        rw [← z]
        exact List.mem_map.mpr ⟨_, h2, rfl⟩
      rw [List.lookup_cons, ne]
      exact lookup_of_mem nd'.2 h2
theorem zip_keys : ∀ {ps : List Str} {us : List Value}, us.length = ps.length → (ps.zip us).map (·.1) = ps
  | [], [], _ => rfl
  | p :: ps, u :: us, h => by
    show p :: (ps.zip us).map (·.1) = p :: ps
    rw [zip_keys (by simpa using h)]
  | [], _ :: _, h => by cases h
  | _ :: _, [], h => by cases h
theorem zip_mem : ∀ {ps : List Str} {us : List Value} {i : Nat} {x : Str} {u : Value}, ps[i]? = some x → us[i]? = some u → (x, u) ∈ ps.zip us
  | [], _, _, _, _, h, _ => by simp at h
  | _ :: _, [], _, _, _, _, h => by simp at h
  | p :: ps, v :: us, 0, x, u, h1, h2 => by
    simp at h1 h2
    subst h1 h2
    exact List.mem_cons_self
  | p :: ps, v :: us, i + 1, x, u, h1, h2 => List.mem_cons_of_mem _ (zip_mem (i := i) (by simpa using h1) (by simpa using h2))
theorem cell_one {x : Str} {cc c : Addr} (h : ([("__class__", cc)] : List (Str × Addr)).lookup x = some c) : x = "__class__" ∧ c = cc := by
  rw [List.lookup_cons] at h
  cases e : (x == ("__class__" : Str)) with
  | true =>
    rw [e] at h
    exact ⟨beq_iff_eq.mp e, (Option.some.inj h).symm⟩
  | false =>
    rw [e] at h
    cases h
theorem ini_start {P : Program} {w : World} {K : PySem.W.Frag} {mg : Str → Option Value} {base : Heap} {ps : List Str} {qual : Str} {sc : Scope} {f cda cc : Addr} {A : Around} {outer : List Env} {s : Shared} {H : Hp} {us : List Value} {vs : List V} {h₁ : Heap} {tk : Nat} {oc : Obj} {v0 : Option Value}
    (S : IniScope ps sc) (hd : A.handled = none) (e0 : Env0 P w K mg base A outer s H) (hl : us.length = ps.length) (r : Vals vs us) (lc : K.lookup cc = some oc) (dc : oc.data = .cell v0)
    (hns : h₁.Ns s.heap.objs.size fun y => (ps.zip us).reverse.lookup y) (hk : ∀ b o, s.heap.get? b = some o → h₁.get? b = some o) :
    Inv (iniCx P w K mg base ps qual sc f cda cc A outer s H) [] (vs.map some) H { s with heap := h₁, toks := tk } := by
  have noA : ∀ b : Addr, b ∉ (iniCx P w K mg base ps qual sc f cda cc A outer s H).ex := fun b z => absurd (show b ∈ ([] : List Addr) from z) (by simp)
  have cb := e0.bs cc oc (e0.mod.kin cc oc lc)
  refine ⟨⟨e0.mod, S.kind, rfl, rfl, Nat.le_refl _, fun x y c h1 h2 => ?_, fun x hx => ?_, fun x c z _ => ?_, fun _ => hd, Around.frames_deeper e0.frames, .inr ⟨rfl, rfl⟩, fun b z => absurd z (noA b), e0.bs, e0.bsz, fun b _ _ => noA b, fun b z => absurd z (noA b), e0.funs, e0.frf⟩,
    rfl, e0.bare, Un.kept hk, ⟨_, hns, fun i x v h1 h2 h3 => ?_⟩, fun x c h => ?_, e0.hok.fresh (Nat.le_refl _), fun x c h => ?_, fun p hp => absurd (show p ∈ ([] : List (Addr × Obj)) from hp) (by simp), e0.hok.kept hk, ?_⟩
  · exact (cell_one h1).1.trans (cell_one h2).1.symm
  · have hx : sc.names.lookup x = some .cell ∨ sc.names.lookup x = some .free := hx
    rcases hx with z | z
    · exact absurd rfl (S.noc _ (PySem.mem_of_lookup z))
    · have e := S.fre _ (PySem.mem_of_lookup z) rfl
      have e : x = "__class__" := e
      subst e
      exact ⟨cc, show ([("__class__", cc)] : List (Str × Addr)).lookup ("__class__" : Str) = some cc by simp [List.lookup]⟩
  · have z : false = true := z
    cases z
  · have hi : i < vs.length := by
      by_cases z : i < vs.length
      · exact z
      · rw [List.getElem?_eq_none (by rw [List.length_map]; omega)] at h2
        cases h2
    have ha : vs[i]? = some v := by
      rw [List.getElem?_map] at h2
      cases e : vs[i]? with
      | none => rw [e] at h2; cases h2
      | some a => rw [e] at h2; cases h2; rfl
    obtain ⟨u, hu, rv⟩ := r.get ha
    have kl := S.par x (List.mem_of_getElem? h1)
    refine ⟨u, rv, .inl ⟨kl, ?_⟩⟩
    refine lookup_of_mem ?_ (List.mem_reverse.mpr (zip_mem h1 hu))
    rw [List.map_reverse, zip_keys hl]
    exact List.pairwise_reverse.mpr (S.nd.imp Ne.symm)
  · obtain ⟨_, rfl⟩ := cell_one h
    exact ⟨v0, oc, hk _ _ cb.1, dc⟩
  · obtain ⟨_, rfl⟩ := cell_one h
    exact cb.2
  · show (vs.map some).length = ps.length
    rw [List.length_map, r.length, hl]

/-! ### such an __init__ keeps a promise -/
/-- what the written part tells of the class at C, of its __init__ at f (its cell at cc, its code at cda) -/
structure IniTxt (P : Program) (K : PySem.W.Frag) (mg : Str → Option Value) (B i newId : String) (bmB : List Value) (C f cc cda : Addr) (qual : Str) (params : Arguments) (body : List Stmt) (sc : Scope) (fd : FuncData) : Prop where
  kf : PySem.W.KxsFacts B i
  fb : ExcBaseFacts B newId i bmB
  fn : ∃ oc od dV kV doc pm an ct osl, fd = ksFn "__init__" qual params body sc dV kV doc pm an (.ref cda) ct cc ∧ K.lookup f = some ⟨oc, od, .func fd, osl⟩
  code : PySem.W.codeIn K (.ref cda) qual = true
  file : ∃ ccl cdd vs ccs tf, K.lookup cda = some ⟨ccl, cdd, .fields vs, ccs⟩ ∧ vs[2]? = some (.str P.main.file tf)
  cell : ∃ cl cld csl, K.lookup cc = some ⟨cl, cld, .cell (some (.ref C)), csl⟩
  cls : ∃ nm q N bs bm hdct sn sub ab col dd k0 k1 k2 k3 k5, K.lookup C = some (excClassObj nm q C N bs bm hdct sn sub ab col dd k0 k1 k2 k3 k5 newId)
  up : PySem.W.ks_superIn K C C "__init__" = some (some (.builtin i))
  isB : PySem.W.subIn K (.ref C) (.type B) = some true
  self : PySem.W.mroIn K C (.ref C) = some true
  opq : PySem.W.nsIn K cStatics "thirdparty.any" = some none
  sup : mg "super" = none
  top : (P.main.scope.names.lookup ("super" : Str)).isSome = false
abbrev superInit (p0 p1 p2 p3 p4 p5 : Pos) (j : Nat) (z : Str) : Stmt := .Expr (.Call (.Attribute (.Call (.Name "super" p0) [] [] p1) "__init__" p2) [.Constant (.str z) j p3] [] p4) p5
def spIni (C : Addr) (t : TS) : Sp := fun vs H Q _ => ∃ (a : Addr) (ws : List V), vs = .ref a :: ws ∧ H a = some (exo a C none) ∧ t { nx := fun _ H' => Q .non H', rt := Q } (vs.map some) H
section
variable {P : Program} {w : World} {K : PySem.W.Frag} {mg : Str → Option Value} {base : Heap} {B i newId : String} {bmB : List Value} {C f cc cda : Addr} {qual : Str} {params : Arguments} {rest : List Stmt} {sc : Scope} {fd : FuncData} {ps : List Str} {p0 p1 p2 p3 p4 p5 : Pos} {j k : Nat} {z : Str} {self : Arg} {sp : Sp}
/-- how super().__init__('..') is run, where it stands on one line -/
def SupEv (p0 p1 p2 p3 p4 : Pos) (j : Nat) (z : Str) : Prop := ∀ env : Env, ∃ pl : Sem Bool, eval (.Call (.Attribute (.Call (.Name "super" p0) [] [] p1) "__init__" p2) [.Constant (.str z) j p3] [] p4) env = (do
  let ov ← attributeBase (.Call (.Name "super" p0) [] [] p1) "__init__" env (eval (.Call (.Name "super" p0) [] [] p1) env)
  standAt p2.atName
  let (f, first) ← holding [ov] (getMethod ov "__init__" pl)
  callWith p4 f first (backTo p4 (starEach [.Constant (.str z) j p3] env)) [])
theorem ini_ok (hev : SupEv p0 p1 p2 p3 p4 j z) (T : IniTxt P K mg B i newId bmB C f cc cda qual params (superInit p0 p1 p2 p3 p4 p5 j z :: rest) sc fd) (S : IniScope ps sc) (hself : (params.posonlyargs ++ params.args).head? = some self) (hp0 : ps[0]? = some self.arg)
    (many : ∀ vs H Q E, sp vs H Q E → vs.length = ps.length)
    (body : ∀ (A : Around) (outer : List Env) (s : Shared) (H : Hp) (vs : List V) (Q : VK) (E : XK), Room k (A.deeper (ksEnv qual sc s.heap.objs.size f (.ref cda) cc)) → sp vs H Q E →
      ∃ a ws, vs = .ref a :: ws ∧ H a = some (exo a C none) ∧ ∃ t, PSs (iniCx P w K mg base ps qual sc f cda cc A outer s H) rest t ∧ t { nx := fun _ H' => Q .non H', rt := Q } (vs.map some) H) :
    FnOk P w K mg base CX0 (k + 1) f fd ps sp := by
  obtain ⟨oc, od, dV, kV, doc, pm, an, ct, osl, rfl, lk⟩ := T.fn
  obtain ⟨ccl, cdd, cvs, ccs, tf, lcode, hfile⟩ := T.file
  obtain ⟨cl, cld, csl, lcell⟩ := T.cell
  obtain ⟨nm, q, N, bs, bm, hdct, sn, sub, ab, col, dd, k0, k1, k2, k3, k5, lC⟩ := T.cls
  refine ⟨many, fun A outer s H args us vs Q E hr e0 hb r hsp => ?_⟩
  have KX : K.In s.heap := e0.mod.kin.keeps fun b o e => (e0.bs b o e).1
  have lim : s.heap.NoLimit := e0.mod.nolimit.keeps fun b o e => (e0.bs b o e).1
  have hl : us.length = ps.length := r.length.symm.trans (many _ _ _ _ hsp)
  refine PySem.ks_codeAny_call_defAt (body := superInit p0 p1 p2 p3 p4 p5 j z :: rest) (binds := ps.zip us) hr.depth (KX _ _ lk) rfl lim (PySem.W.codeRec_of KX T.code) rfl hb S.noc (fun y hy => S.par y.1 (List.of_mem_zip hy).1) (fun h₁ hns hk => ?_) S.co S.gen S.kind
  obtain ⟨a, ws, rfl, hea, t, ht, hq⟩ := body A outer s H vs Q E (hr.deeper _) hsp
  have I : Inv (iniCx P w K mg base ps qual sc f cda cc A outer s H) [] ((V.ref a :: ws).map some) H { s with heap := h₁, toks := s.toks + (ps.zip us).length } := ini_start S hr.hd e0 hl r lcell rfl hns hk
  have hu0 : us[0]? = some (.ref a) := by
    obtain ⟨u, h1, h2⟩ := r.get (i := 0) (x := .ref a) rfl
    rw [h1]
    exact congrArg some h2
  have hself' : (ps.zip us).reverse.lookup self.arg = some (.ref a) := by
    refine lookup_of_mem ?_ (List.mem_reverse.mpr (zip_mem hp0 hu0))
    rw [List.map_reverse, zip_keys hl]
    exact List.pairwise_reverse.mpr (S.nd.imp Ne.symm)
  have fin : ∀ {σ' : L2.St} {H' : Hp} {v : V} {u : Value} {s' : Shared}, Inv (iniCx P w K mg base ps qual sc f cda cc A outer s H) [] σ' H' s' → RelV v u → Q v H' → CE outer P w H s Q u s' := fun J rv q => ⟨_, _, J.os, J.bare, J.base, J.hok, rv, q⟩
  have X1 := I.kIn
  obtain ⟨mb, hmb, hbb⟩ := I.mod.blt
  obtain ⟨t0, hoe⟩ := exo_at I.hok hea
  have hC1 := X1 _ _ lC
  have hcd : PySem.W.clsIn K C = some { name := nm, bases := bs, mro := .ref C :: bm, ns := N, qualname := q, hasDict := hdct, slotNames := sn, subclasses := sub, abstract := ab, collection := col, hasDel := false } := by
    unfold PySem.W.clsIn
    rw [lC] <;> rfl
  have hint : interactive (ksEnv qual sc s.heap.objs.size f (.ref cda) cc) = false := by
    unfold interactive
    simp [S.kind]
  obtain ⟨pl, he⟩ := hev (ksEnv qual sc s.heap.objs.size f (.ref cda) cc)
  refine PySem.ks_wpAt_execs_cons (PySem.ks_wpAt_Expr_any (PySem.ks_wpAt_MethodCall (pl := pl) ?_ he) hint)
  refine PySem.ks_wpAt_super_base (env := ksEnv qual sc s.heap.objs.size f (.ref cda) cc) S.sup S.cls (by decide) rfl (X1 _ _ lk) rfl hself rfl (X1 _ _ lcode) rfl hfile (beq_self_eq_true _) T.top ?_
  refine PySem.W.ks_loadName_global S.kind S.sup (Calls.loadGlobal_builtin (env := ksEnv qual sc s.heap.objs.size f (.ref cda) cc) (I.mod.glob.keeps I.bk) T.sup (hmb.keeps I.bk) ((hbb "super" (by decide +kernel)).trans PyProof.Rows.Boot.«super») ⟨rfl, ?_⟩)
  refine wpAny_loadName_free S.kind S.cls rfl ⟨_, X1 _ _ lcell, rfl⟩ ?_
  refine wpAny_loadName_local S.kind (S.par _ (List.mem_of_getElem? hp0)) hns hself' ?_
  refine PySem.ks_wpAny_isType_cls hC1 rfl ⟨rfl, ?_⟩
  refine PySem.ks_wpAny_call_super hC1 rfl hoe rfl (fun c e => by cases e) (PySem.W.looks_mroIn X1 T.self) (fun h2 e2 k2 => ?_)
  have I2 := I.kept (t' := s.toks + (ps.zip us).length) k2
  have X2 := I2.kIn
  have hoe2 := k2 _ _ hoe
  have J2 : PySem.W.InstAt h2 a (PySem.HandSPX.excO C t0) C none := ⟨hoe2, rfl, rfl, trivial⟩
  have hup : PySem.W.alongIn K "__init__" (((Value.ref C :: bm).dropWhile (· != .ref C)).drop 1) = some (some (.builtin i)) := by
    have z := T.up
    unfold PySem.W.ks_superIn at z
    rw [hcd] at z
    exact z
  have haC : a ≠ C := fun z => by
    have n := (I.bs C _ (I.mod.kin _ _ lC)).2
    rw [← z, hea] at n
    cases n
  refine PySem.W.kxs_getMethod T.kf e2 (PySem.W.looks_opaque X2 T.opq) (l₀ := .ref C :: bm) (fun A Q E s k q => wpAny_bind ((PySem.W.looks_clsIn X2 hcd) A _ E s k (wpAny_pure q))) rfl X2 hup (J2.type.andThen (PySem.W.looks_subIn X2 T.isB)) haC (by decide) ?_
  have I3 : Inv (iniCx P w K mg base ps qual sc f cda cc A outer s H) [(h2.objs.size, PySem.W.kxs_mw i a)] ((V.ref a :: ws).map some) H ⟨h2.push (PySem.W.kxs_mw i a), s.gens, s.drawn, s.toks + (ps.zip us).length + 1, s.os⟩ :=
    ClX.pin_new (s := ⟨h2, s.gens, s.drawn, s.toks + (ps.zip us).length, s.os⟩) (t' := s.toks + (ps.zip us).length + 1) I2 (fun b o e => Heap.get?_push_of_some _ e) (Nat.le_refl _) (Heap.get?_push_size _ rfl) (fun v z => nomatch z)
  refine PySem.W.kxs_callWith (i := i) (x := a) rfl (PySem.Calls.evalArgs_plain ?_)
  have PA1 : PA (iniCx P w K mg base ps qual sc f cda cc A outer s H) [.Constant (.str z) j p3] (tCons (tC (.str z)) tNil) := pa_cons pe_str pa_nil
  refine thnF (PA1.run p4 _ _ ((V.ref a :: ws).map some) H (fun vs H' => vs.length ≤ 1 ∧ H' = H) I3 ⟨Nat.le_refl _, rfl⟩) fun us4 s4 ⟨vs4, H4, I4, r4, l4, e4⟩ => ?_
  subst e4
  refine ⟨ClX.pin_at I4, ?_⟩
  have X4 := I4.kIn
  obtain ⟨t4, hoe4⟩ := exo_at I4.hok hea
  obtain ⟨g4, gs4, d4, tk4, os4⟩ := s4
  refine call_mw T.fb (X4 _ _ lC) hoe4 (ClX.pin_at I4) (by show us4.length ≤ sizeLine; rw [← r4.length, sizeLine_eq]; omega) fun h5 t5 k5 e5 => ?_
  have I5 := (ClX.unpin I4).write (t' := tk4) (x := a) (e := a) (o := exo a C none) (by rw [hea]; exact True.intro) (.inl rfl) k5 ⟨_, e5⟩ (exo_ok e5)
  have eu : upd H4 a (exo a C none) = H4 := by
    funext b
    by_cases hb : b = a
    · rw [hb, upd_same, hea]
    · rw [upd_ne hb]
  rw [eu] at I5
  refine wpAt_of_wpAny (thnF (ht.run [] _ _ _ _ I5 hq) fun fl s' hs => ?_)
  match fl, hs with
  | .ret u, hs =>
    obtain ⟨v, σ', H', J, rv, q⟩ := hs
    exact fin J rv q
  | .next, hs =>
    obtain ⟨σ', H', J, q⟩ := hs
    exact fin (v := V.non) (u := Value.none) J rfl q
  | .brk, hs =>
    obtain ⟨_, _, _, q⟩ := hs
    exact False.elim q
  | .cont, hs =>
    obtain ⟨_, _, _, q⟩ := hs
    exact False.elim q
end
end VG

set_option maxRecDepth 100000
/-! The name of an exception's class; errors that keep what they were given. -/
namespace VG
open PySem PySem.Spec PyProof.Rows L2

/-! ### o.__class__ of an own exception, C.__name__ of an own class -/
structure ClsTxt (K : PySem.W.Frag) (C : Addr) (nm : Str) : Prop where
  ga : PySem.W.findIn K (.ref C) "__getattribute__" = some (some (.builtin "BaseException.__getattribute__"))
  gg : PySem.W.findIn K (.ref C) "__getattr__" = some none
  exC : PySem.W.subIn K (.ref C) (.type "BaseException") = some true
  isC : (PySem.W.clsIn K C).isSome = true
  ca : PySem.W.findIn K (.ref C) "__class__" = some (some (.builtin "object.__class__"))
  cn : PySem.W.specialIn K (.builtin "object.__class__") "__get__" = some (some (.builtin "getset_descriptor.__get__"))
  ct : PySem.W.takesIn K (.builtin "object.__class__") = some true
  cm : PySem.W.mroIn K C (.type "object") = some true
  rd : PySem.W.readsIn K C (.type "type") = true
  na : PySem.W.findCls K (.ref C) (.type "type") "__name__" = some (.get (.builtin "getset_descriptor.__get__") (.builtin "type.__name__") (.ref C) (.type "type"))
  ty : PySem.W.typeIn K (.ref C) = some (.type "type")
  nm : ∃ oc od dt sl tk, K.lookup C = some ⟨oc, od, dt, sl⟩ ∧ sl[2]? = some (some (.str nm tk))
section
variable {prog : Program} {w : World} {A : Around} {E : Value → Shared → Prop} {s : Shared} {K : PySem.W.Frag} {C x : Addr} {nm : Str} {ox : Obj} {od : Option Obj}
theorem find_class (T : ClsTxt K C nm) : PySem.W.findObj K C od "__class__" = some (.bind (.builtin "getset_descriptor.__get__") (.builtin "object.__class__")) := by
  obtain ⟨cd, hc⟩ := Option.isSome_iff_exists.mp T.isC
  unfold PySem.W.findObj
  rw [hc, Option.bind_some, T.ca, Option.bind_some]
  simp [T.cn, T.ct]
theorem get_class {expr : Bool} {Q : Value → Shared → Prop} (T : ClsTxt K C nm) (X : K.In s.heap) (I : PySem.W.InstAt s.heap x ox C od) (h : Q (.ref C) { s with toks := s.toks + 1 }) : wpAny (model prog w) A (getAttr (.ref x) "__class__" expr) Q E s := by
  obtain ⟨hp, g, d, t, os⟩ := s
  have ty := I.type (M := model prog w)
  have own : (onTheHeap (Value.ref C) && Value.builtin "BaseException.__getattribute__" == Value.builtin "object.__getattribute__") = false := by
    rw [show (Value.builtin "BaseException.__getattribute__" == Value.builtin "object.__getattribute__") = false by decide +kernel, Bool.and_false]
  have plain : (expr && onTheHeap (Value.builtin "BaseException.__getattribute__")) = false := by cases expr <;> rfl
  unfold getAttr getAttrBy
  refine wpAny_bind (wpAny_mkText (wpAny_holding (wpAny_bind (ty.at (wpAny_bind ((PySem.W.looks_findIn X T.ga).at ?_))))))
  dsimp only
  rw [own, if_neg (by decide)]
  unfold getAttrByItsOwn hookBefore
  refine wpAny_bind ?_
  rw [if_pos (show onTheHeap (Value.ref C) = true from rfl)]
  refine (PySem.W.looks_findIn X T.gg).at (wpAny_bind (wpAny_attempt (wpAny_holding ?_)))
  unfold callGetattribute
  rw [plain, if_neg (by decide)]
  unfold boundAndCalled
  rw [PySem.F.excAttr_ValueError.ga.bind (.ref x)]
  refine wpAny_bind (wpAny_pure (wpAny_call (codeAny_call_builtin PySem.F.excAttr_ValueError.ga.plain PySem.F.entry_bexc_ga ?_)))
  refine @PySem.W.check_slot (model prog w) _ _ ⟨hp, g, d, t + 1, os⟩ "BaseException.__getattribute__" "BaseException" "__getattribute__" (.ref x) [.str "__class__" t] [] _ (by decide +kernel) (by decide +kernel)
    (ty.andThen (PySem.W.looks_subIn X T.exC)) (PySem.F.args_bexc_ga (.ref x) (.str "__class__" t)) ?_
  unfold Builtin.«object.__getattribute__»
  refine wpAny_bind (wpAny_of_eq (a := ((Value.ref x : Value), [Value.str "__class__" t])) (by first | rfl | (simp only [slotArgs]; rfl)) ?_)
  refine wpAny_bind (wpAny_pure (wpAny_bind (ty.at (wpAny_bind ((PySem.W.looks_find X I (find_class T)).at ?_)))))
  refine wpAny_bind (wpAny_holding (wpAny_call (PySem.W.class_get (s := ⟨hp, g, d, t + 1, os⟩) X I T.cm ?_)))
  refine wpAny_pure ?_
  exact PySem.W.handed_on (v := .ref C) rfl h
theorem get_name {expr : Bool} {Q : Value → Shared → Prop} (T : ClsTxt K C nm) (X : K.In s.heap) (h : ∀ tk, Q (.str nm tk) { s with toks := s.toks + 1 }) : wpAny (model prog w) A (getAttr (.ref C) "__name__" expr) Q E s := by
  obtain ⟨oc, od, dt, sl, tk, lC, hsl⟩ := T.nm
  refine PySem.W.cls_bind X T.rd T.na ?_
  obtain ⟨hp, g, d, t, os⟩ := s
  have hC := X _ _ lC
  have ty : PySem.W.Looks (model prog w) hp (typeOf (.ref C)) (.type "type") := PySem.W.looks_typeIn X T.ty
  have L1 : PySem.W.Looks (model prog w) hp (isSubtype (.type "type") (.type "type")) true := PySem.W.Looks.of_pure (by rw [isSubtype_type]; kernel_rfl)
  refine wpAny_call (codeAny_call_builtin PySem.W.KF.slot_gs.plain PySem.W.KF.entry_gs (PySem.W.KF.slot_gs.check _ _ _ _ _ _ _ _ PySem.W.ktyn_type (PySem.W.KF.args_gs _ _ _) ?_))
  unfold Builtin.«getset_descriptor.__get__» Builtin.Getset_descriptor.descrGet
  rw [PySem.W.dga_obj]
  refine wpAny_bind (wpAny_pure ?_)
  unfold Builtin.Getset_descriptor.descrGetter Builtin.Getset_descriptor.descrCheckInstance Builtin.Getset_descriptor.descrNameAndClass isInstance
  simp only [PySem.W.ktyn_owner]
  repeat lk
  refine ⟨Code.quiet_builtin _ (by decide +kernel), codeAny_builtin PySem.W.ktyn_entry ?_⟩
  unfold Builtin.«type.__name__» Builtin.keptObject slotAt
  dsimp only
  refine wpAny_bind (wpAny_bind (wpAny_bind (wpAny_loadPart_at hC (wpAny_pure ?_))))
  rw [hsl]
  exact wpAny_pure (wpAny_pure (PySem.W.handed_on (v := .str nm tk) rfl (h tk)))
end
/-- o.__class__.__name__, o an exception that is being made -/
def tClsName (K : PySem.W.Frag) (to : TE) : TE := fun σ H Q => to σ H fun x H1 => ∃ (a C : Addr) (nm : Str), x = .ref a ∧ ClsTxt K C nm ∧ (H1 a = some (exo a C none) ∨ ∃ (dx : Addr) (fs : List (Str × V)), H1 a = some (exo a C (some dx)) ∧ H1 dx = some (exd dx fs)) ∧ Q (.str nm) H1
theorem pe_clsName {X : Cx} {o : Expr} {to : TE} {p1 p2 : Pos} (ho : PE X o to) (b1 : attributeBase o "__class__" X.env (eval o X.env) = eval o X.env := by rfl)
    (b2 : attributeBase (.Attribute o "__class__" p1) "__name__" X.env (eval (.Attribute o "__class__" p1) X.env) = eval (.Attribute o "__class__" p1) X.env := by rfl) :
    PE X (.Attribute (.Attribute o "__class__" p1) "__name__" p2) (tClsName X.K to) := by
  refine ⟨fun pins s σ H Q I h => ?_⟩
  refine attr_of b2 (attr_of b1 (thn (ho.run pins s σ H _ I h) fun u s1 ⟨x, H1, I1, rx, a, C, nm, ex, T, hea, q⟩ => ?_))
  subst ex
  obtain rfl : u = Value.ref a := rx
  have fin : ∀ {ox : Obj} {od : Option Obj}, PySem.W.InstAt s1.heap a ox C od → wpAny (model X.prog X.w) X.A (getAttr (.ref a) "__class__" true) (fun o s₁ => wpAny (model X.prog X.w) X.A (getAttr o "__name__" true) (EP X pins σ Q) X.xe s₁) X.xe s1 := fun J =>
    get_class T I1.kIn J (get_name T (I1.tok _).kIn fun tk => ⟨.str nm, H1, (I1.tok _).tok _, ⟨tk, rfl⟩, q⟩)
  rcases hea with e | ⟨dx, fs, e, ed⟩
  · obtain ⟨t1, ho1⟩ := exo_at I1.hok e
    exact fin (od := none) ⟨ho1, rfl, rfl, trivial⟩
  · obtain ⟨t1, ho1⟩ := exo_at I1.hok e
    obtain ⟨mA, hns, rel⟩ := exd_at I1.hok ed
    obtain ⟨oD, _, _, hoD, _, _⟩ := hns.count (within_of rel)
    exact fin (od := some oD) ⟨ho1, rfl, rfl, hoD⟩
end VG

set_option maxRecDepth 100000
/-! try: .. except (A, B, C) as n: .. -/
namespace VG
open PySem PySem.Spec PyProof.Rows L2

theorem flying_kept {B h h' : Heap} {l : List Env} {a : Addr} {Z : Obj → Prop} (k : ∀ b o, h.get? b = some o → h'.get? b = some o) (x : HandSPX.FlyingZ B l a Z h) : HandSPX.FlyingZ B l a Z h' := by
  obtain ⟨st, nb, ff, oe, vs, T, oT, ts, h1, h2, h3, h4, h5, h6, h7, h8, h9⟩ := x
  exact ⟨fun b o e => k b o (st b o e), nb, ff.of_keeps fun b o e _ => ⟨o, k b o e, rfl⟩, oe, vs, T, oT, ts, k _ _ h1, h2, h3, h4, h5, h6, k _ _ h7, h8, h9⟩
/-- what such a clause wishes of an exception of the body (one of another class is not looked at here) -/
def wAs3 (K : PySem.W.Frag) (cs : List Value) (i n : Nat) (ts : Addr → Value → Option Addr → TS) (D : Ends) : WX := fun cls d σ H => PySem.W.exmAny K cls cs = some true ∧
  ∀ a, H a = none → σ.length = n → ts a cls d { nx := fun σ' H' => D.nx (σ'.set i none) H', rt := D.rt, bk := fun σ' H' => D.bk (σ'.set i none) H', ct := fun σ' H' => D.ct (σ'.set i none) H' } (σ.set i (some (.ref a))) H
section
variable {X : Cx} {x1 x2 x3 n : Str} {c1 c2 c3 : Value} {i j : Nat} {body suite : List Stmt} {b₀ : Stmt} {q1 q2 q3 tpos pos pos' : Pos} {tb : WX → TS} {ts : Addr → Value → Option Addr → TS}
theorem name_at {pins : List (Addr × Obj)} {σ : L2.St} {H : Hp} {s : Shared} {x : Str} {c : Value} {p : Pos} {E : Value → Shared → Prop} {Q : Value → Shared → Prop} (I : Inv X pins σ H s) (hc : Names X x c) (q : Q c s) : wpAny (model X.prog X.w) X.A (eval (.Name x p) X.env) Q E s := by
  obtain ⟨hg, hd, hm | ⟨hm, hv, hn⟩⟩ := hc
  · exact ld_glob I hg hm q hd
  · exact ld_blt I hg hm hv q hn hd
theorem ps_try_as3 (hs : X.stack = X.env :: X.outer) (hf : X.env.frame = some X.env.locals) (hN : X.N.Nodup) (hi : X.N[i]? = some n) (hln : X.env.kindOf n = some .local) (n1 : Names X x1 c1) (n2 : Names X x2 c2) (n3 : Names X x3 c3)
    (hb : ∀ (W : WX) (pn : List (Addr × Obj)) (xe : Value → Shared → Prop), Takes (X.tr pn xe) W → PassesOwn (model X.prog X.w) X.A X.env xe → PSs (X.tr pn xe) body (tb W))
    (hsu : ∀ (a : Addr) (oe : Obj) (cls : Value) (d : Option Addr) (pn : List (Addr × Obj)), Zc cls d oe → (∃ vs, oe.data = .fields vs) → PSs (X.suite a ((a, oe) :: pn)) (b₀ :: suite) (ts a cls d)) :
    PS X (.Try body [.ExceptHandler (some (.Tuple [.Name x1 q1, .Name x2 q2, .Name x3 q3] j tpos)) (some n) (b₀ :: suite) pos'] [] [] pos) (fun D σ H => tb (wAs3 X.K [c1, c2, c3] i X.N.length ts D) D σ H) := by
  refine ⟨fun pins s σ H D I h => ?_⟩
  have ok := I.ok
  have hfr : X.A.frames = some (X.env :: X.outer) := by rw [ok.frames, hs]
  have loc : Loc X.env.scope n := .inl hln
  refine wpAny_Try_except (wpAny_mono ((hb (wAs3 X.K [c1, c2, c3] i X.N.length ts D) (X.pn ++ pins) (fun e s₁ => wpAny (model X.prog X.w) X.A (noteFrame e X.env) (fun _ s₂ => wpAny (model X.prog X.w) X.A (setFlight e none) (fun _ s₃ =>
    wpAny (model X.prog X.w) X.A (handleBy e X.env [.ExceptHandler (some (.Tuple [.Name x1 q1, .Name x2 q2, .Name x3 q3] j tpos)) (some n) (b₀ :: suite) pos']) (SP X pins D) X.xe s₃) X.xe s₂) X.xe s₁) (fun u s' xx => ?_) PassesOwn.looking).run [] s σ H D (I.toTry _) h)
    (fun f s1 hsp => ?_) (fun e s1 he => he))
  · obtain ⟨a, B, sI, pins', σ', H', cls, d, rfl, J', nb, up, sky, na, os, ag, yes, go⟩ := xx
    have J : Inv X pins σ' H' sI := J'.ofTry ok
    refine Sky.land Zc.steady hfr hf (show Sky B (X.env :: X.outer) a (Zc cls d) X.env.locals s'.heap by rw [← hs]; exact sky) fun h3 fl3 up3 => ?_
    have J3 : Inv X pins σ' H' { s' with heap := h3 } := J.landed nb fl3.1 (up.trans up3) os ag
    obtain ⟨oe3, vs3, he3, hz3, hd3⟩ := fl3.there
    have nfr : a ∉ frs (X.env :: X.outer) := fun hm => by
      obtain ⟨_, o', e', z⟩ := fl3.2.2.1.mem hm
      rw [he3] at e'
      cases e'
      exact z _ hd3
    have nL : a ≠ X.env.locals := fun z => nfr (List.mem_filterMap.mpr ⟨X.env, List.mem_cons_self, by rw [hf, z]⟩)
    have nF : a ∉ X.fs := fun hm => by
      obtain ⟨e, he, q⟩ := List.mem_filterMap.mp hm
      exact nfr (List.mem_filterMap.mpr ⟨e, List.mem_cons_of_mem _ he, q⟩)
    have S3 := J3.suite he3 hd3 na nL nF
    have up13 := up.trans up3
    refine wpAny_handleBy_cons (codeAny_handlers_test ?_) (by intro q; cases q)
    refine wpAny_Tuple (wpAny_items_cons (name_at (X := X.suite a ((a, oe3) :: (X.pn ++ pins))) S3 n1 (wpAny_items_cons (name_at (X := X.suite a ((a, oe3) :: (X.pn ++ pins))) S3 n2 (wpAny_items_cons (name_at (X := X.suite a ((a, oe3) :: (X.pn ++ pins))) S3 n3 (wpAny_items_nil ⟨by size_fits, ?_⟩)))))))
    have kp : ∀ q o, h3.get? q = some o → (h3.push { cls := .type "tuple", data := .seq [c1, c2, c3].toArray }).get? q = some o := fun _ _ z => Heap.get?_push_of_some _ z
    have ty : PySem.W.Looks (model X.prog X.w) (h3.push { cls := .type "tuple", data := .seq [c1, c2, c3].toArray }) (typeOf (.ref a)) cls := fun A Q E s k q => wpAny_typeOf_ref (k _ _ (kp _ _ he3)) (by rw [hz3.1]; exact q)
    have fl4 := flying_kept kp fl3
    have up4 : h3.UpToSlots (h3.push { cls := .type "tuple", data := .seq [c1, c2, c3].toArray }) := .of_keeps kp
    have J4 : Inv X pins σ' H' { s' with heap := h3.push { cls := .type "tuple", data := .seq [c1, c2, c3].toArray } } := J.landed nb fl4.1 (up13.trans up4) os ag
    refine (PySem.W.exm_tup3 J4.kIn ty (Heap.get?_push_size h3 rfl) yes).here ?_
    refine codeAny_handlers_suite_as (HandSPX.lands_againZ fl4 fun h5 fl5 up5 => ?_)
    have J5 : Inv X pins σ' H' { s' with heap := h5 } := J.landed nb fl5.1 ((up13.trans up4).trans up5) os ag
    obtain ⟨oe5, vs5, he5, hz5, hd5⟩ := fl5.there
    have S5 := J5.suite he5 hd5 na nL nF
    refine store_ok (X := X.suite a ((a, oe5) :: (X.pn ++ pins))) (v := .ref a) S5 hN hi loc rfl (fun s6 S6 => ?_) (.inr hln)
    refine wpAny_mono ((hsu a oe5 cls d (X.pn ++ pins) hz5 ⟨_, hd5⟩).run [] s6 _ H' _ S6 (go a na J.len)) (fun f s7 hsp => ?_) (fun _ _ z => False.elim z)
    have fin : ∀ {σ7 : L2.St} {H7 : Hp} {Q : Shared → Prop}, Inv (X.suite a ((a, oe5) :: (X.pn ++ pins))) [] σ7 H7 s7 → (∀ s8, Inv X pins (σ7.set i none) H7 s8 → Q s8) →
        wpAny (model X.prog X.w) X.A (do bindName X.env n .none; unbindBehindTheSuite X.env n pos') (fun _ s8 => Q s8) X.xe s7 := fun S7 q => gone_ok (S7.unsuite ok) hN hi hln q
    match f, hsp with
    | .next, ⟨_, _, S7, q⟩ => exact fin S7 fun s8 J8 => ⟨_, _, J8, q⟩
    | .brk, ⟨_, _, S7, q⟩ => exact fin S7 fun s8 J8 => ⟨_, _, J8, q⟩
    | .cont, ⟨_, _, S7, q⟩ => exact fin S7 fun s8 J8 => ⟨_, _, J8, q⟩
    | .ret u, ⟨v, _, _, S7, r, q⟩ => exact fin S7 fun s8 J8 => ⟨_, _, _, J8, r, q⟩
  · match f, hsp with
    | .next, ⟨σ', H', J', q⟩ => exact wpAny_execs_nil ⟨σ', H', J'.ofTry ok, q⟩
    | .brk, ⟨σ', H', J', q⟩ => exact ⟨σ', H', J'.ofTry ok, q⟩
    | .cont, ⟨σ', H', J', q⟩ => exact ⟨σ', H', J'.ofTry ok, q⟩
    | .ret u, ⟨v, σ', H', J', r, q⟩ => exact ⟨v, σ', H', J'.ofTry ok, r, q⟩
end
end VG

set_option maxRecDepth 100000
/-! A def that is called within a suite with the exception that is in hand; it reads its fields and raises nothing. -/
namespace VG
open PySem PySem.Spec PyProof.Rows L2
open L2H (RoomH PinOk cxH inv_startH)
/-- p: the exception's address and its object -/
structure FnE (P : Program) (w : World) (K : PySem.W.Frag) (mg : Str → Option Value) (base : Heap) (CX : CXT) (k : Nat) (f : Addr) (fd : FuncData) (ps : List Str) (sp : Addr × Obj → Sp) : Prop where
  many : ∀ p vs H Q E, sp p vs H Q E → vs.length = ps.length
  runs : ∀ (A : Around) (outer : List Env) (s : Shared) (H : Hp) (args : Args) (us : List Value) (vs : List V) (Q : VK) (E : XK) (p : Addr × Obj), RoomH k A → PinOk outer H s p → Env0 P w K mg base A outer s H →
    BindsTo s fd args (ps.zip us) → Vals vs us → sp p vs H Q E → codeAny (model P w) A (.call (.ref f) args) (CR CX outer P w H s Q E) s
section
variable {P : Program} {w : World} {K : PySem.W.Frag} {mg : Str → Option Value} {base : Heap}
theorem okE {x qual : Str} {st : Stmt} {f : Addr} {fd : FuncData} {N ps : List Str} {k : Nat} {sp : Addr × Obj → Sp} (F : Fun K x qual st f fd) (S : FnScope N ps (defScope st)) (many : ∀ p vs H Q E, sp p vs H Q E → vs.length = ps.length)
    (body : ∀ (cdv : Value) (A : Around) (outer : List Env) (s : Shared) (H : Hp) (vs : List V) (Q : VK) (E : XK) (p : Addr × Obj), RoomH k (A.deeper (envOfC qual (defScope st) s.heap.objs.size f cdv)) → sp p vs H Q E →
      ∃ t, PSs (cxH CX0 P w K mg base N qual (defScope st) f cdv A outer s H E p).nox (defBody st) t ∧ t { nx := fun _ H' => Q .non H', rt := Q } (L2.start N vs) H) : FnE P w K mg base CX0 (k + 1) f fd ps sp := by
  obtain ⟨oc, od, kV, doc, pm, an, cdv, ct, osl, rfl, lk, hcd⟩ := F.ex
  refine ⟨many, fun A outer s H args us vs Q E p hr pin e0 hb r q => ?_⟩
  have hl := many _ _ _ _ _ q
  have KX : K.In s.heap := e0.mod.kin.keeps fun b o e => (e0.bs b o e).1
  have lim : s.heap.NoLimit := e0.mod.nolimit.keeps fun b o e => (e0.bs b o e).1
  have kinds : ∀ y ∈ ps.zip us, (defScope st).names.lookup y.1 = some .local ∨ ((defScope st).names.lookup y.1 = some .cell ∧ ((cellsFrom (s.heap.objs.size + 1) (defScope st).names []).lookup y.1).isSome = true) := fun ⟨n, v⟩ hy => by
    rcases S.par n (List.of_mem_zip hy).1 with z | z
    · exact .inl z
    · exact .inr ⟨z, PySem.W.cellsFrom_some _ _ _ (.inl z)⟩
  refine codeAny_call_function hr.depth (KX _ _ lk) rfl S.co S.gen rfl (PySem.W.codeRec_of KX hcd) (hb _ _ _ _ ?_)
  refine wpAny_newFunctionEnv_cells S.kind kinds fun env he s1 x1 => ?_
  subst he
  refine ⟨lim.keeps x1.toInCall.keep, codeAny_func ?_⟩
  obtain ⟨t, ht, hq⟩ := body cdv A outer s H vs Q E p (hr.deeper _) q
  have I : Inv (cxH CX0 P w K mg base N qual (defScope st) f cdv A outer s H E p) [] (L2.start N vs) H s1 := inv_startH S pin e0 hl r x1
  refine wpAny_mono (ht.nox.run [] s1 (L2.start N vs) H _ I hq) (fun fl s' hs => ?_) fun e s' hs => hs
  match fl, hs with
  | .ret u, ⟨v, _, H', J, rv, z⟩ => exact ⟨v, H', J.os, J.bare, J.base, J.hok, rv, z⟩
  | .next, ⟨_, H', J, z⟩ => exact ⟨V.non, H', J.os, J.bare, J.base, J.hok, rfl, z⟩
  | .brk, ⟨_, _, _, z⟩ => exact z.elim
  | .cont, ⟨_, _, _, z⟩ => exact z.elim
end
section
variable {X : Cx} {CX : CXT} {k : Nat} {f : Addr} {fd : FuncData} {ps : List Str} {sp : Addr × Obj → Sp} {E : XK} {x : Str} {q pos : Pos} {e : Expr} {es : List Expr} {t : TA} {p : Addr × Obj}
theorem pe_callE (F : FnE X.prog X.w X.K X.mg X.base CX k f fd ps sp) (hr : RoomH k X.A) (hp : p ∈ X.pn) (hg : Gl X x) (hm : X.mg x = some (.ref f)) (hk : PySem.W.keepIn X.K (.ref f) = true) (hb : Binds X.K fd ps []) (hx : Passes CX X E)
    (ha : PA X (e :: es) t) (n1 : (x == ("__debug__" : Str)) = false := by decide) (n2 : starEach (e :: es) X.env = (false, eval e X.env) :: starEach es X.env := by rfl)
    (n3 : (backTo pos (starEach es X.env)).any (·.1) = false := by rfl) : PE X (.Call (.Name x q) (e :: es) [] pos) (tCall (sp p) [] E t) := by
  refine ⟨fun pins s σ H Q I q0 => wpAny_Call_Name_kw (ld_glob I hg hm (PySem.W.callWith_K (h₀ := X.base) I.ok.mod.kin hk (thn (ha.run pos pins s σ H _ I q0) fun us s1 ⟨vs, H1, I1, r, q⟩ => ⟨I1.kIn, ?_⟩) n2 n3) n1)⟩
  have q : sp p (vs ++ []) H1 Q E := q
  rw [List.append_nil] at q
  have l2 : (us ++ []).length = ps.length := by
    rw [List.append_nil]
    exact r.length.symm.trans (F.many _ _ _ _ _ q)
  have b := hb s1 us I1.kIn l2
  rw [List.append_nil] at b
  have P1 := I1.pin p (List.mem_append_left _ hp)
  have pin : PinOk X.stack H1 s1 p := ⟨P1.1, P1.2.1, fun hm => (List.mem_cons.mp (I1.stkSub p.1 hm)).elim P1.2.2.1 P1.2.2.2.1, P1.2.2.2.2⟩
  refine wpAny_call (codeAny_mono (F.runs X.A X.stack s1 H1 ⟨us, []⟩ us vs Q E p hr pin I1.env0 b r q) fun res s' z => ?_)
  match res, z with
  | .error err, z => exact hx pins σ H1 s1 err s' I1 z
  | .ok (.ret u), z => exact I1.after z
  | .ok .next, z => exact z.elim
  | .ok .brk, z => exact z.elim
  | .ok .cont, z => exact z.elim
end
/-! ### e.f of the exception in hand, whatever its class -/
def exFields : List Str := ["code", "given", "at", "path", "name", "word", "layer", "start", "goal", "limit", "line", "subject", "most"]
/-- a class of errors whose fields are its instances' own -/
structure OwnX (K : PySem.W.Frag) (C : Addr) : Prop where
  xf : XfC K C
  no : ∀ f ∈ exFields, PySem.W.findIn K (.ref C) f = some none
def ownXB (K : PySem.W.Frag) (C : Addr) : Bool := xfB K C && exFields.all fun f => decide (PySem.W.findIn K (.ref C) f = some none)
theorem ownX_of {K : PySem.W.Frag} {C : Addr} (h : ownXB K C = true) : OwnX K C := by
  obtain ⟨h1, h2⟩ := Bool.and_eq_true_iff.mp h
  exact ⟨xfB_ok h1, fun f hf => of_decide_eq_true (List.all_eq_true.mp h2 f hf)⟩
def tXp (K : PySem.W.Frag) (p : Addr × Obj) (f : Str) (te : TE) : TE := fun σ H Q => te σ H fun x H1 => x = .ref p.1 ∧ ∃ (C dd : Addr) (fs : List (Str × V)) (v : V), p.2.cls = .ref C ∧ OwnX K C ∧ p.2.dict = some dd ∧ (∃ vs, p.2.data = .fields vs) ∧
  H1 dd = some (.xd fs) ∧ fs.lookup f = some v ∧ Q v H1
theorem pe_xp {X : Cx} {p : Addr × Obj} {e : Expr} {te : TE} {pos : Pos} {n : Str} (hp : p ∈ X.pn) (hn : n ∈ exFields) (he : PE X e te) (hb : attributeBase e n X.env (eval e X.env) = eval e X.env := by rfl) : PE X (.Attribute e n pos) (tXp X.K p n te) := by
  refine ⟨fun pins s σ H Q I h => attr_of hb (thn (he.run pins s σ H _ I h) fun u s1 hh => ?_)⟩
  obtain ⟨x, H1, I1, rx, ex, C, dd, fs, v, ec, T, ed, ⟨vs, hd⟩, ea, l, q⟩ := hh
  subst ex
  obtain rfl : u = Value.ref p.1 := rx
  obtain ⟨ha, _⟩ := I1.pin p (List.mem_append_left _ hp)
  obtain ⟨mA, hns, hr⟩ := (show ObjOk X.prog X.w H1 s1.heap dd (.xd fs) from I1.hok dd _ ea)
  obtain ⟨od, ho, hl⟩ := lookIn_ns hns
  obtain ⟨u, hu, ru⟩ := RelO.some_of (v := v) (o := mA n) (by rw [← l]; exact hr n)
  have J : PySem.W.InstAt s1.heap p.1 p.2 C (some od) := ⟨ha, ec, by unfold PySem.W.notCls; rw [hd] <;> rfl, by rw [ed]; exact ho⟩
  exact HandSPX.exc_get I1.kIn J T.xf.ga T.xf.gg T.xf.exC (PySem.W.findObj_own T.xf.hdC (T.no n hn) rfl (by rw [hl, hu])) (handed_of ru) ⟨v, H1, I1.tok _, ru, q⟩
end VG

set_option maxRecDepth 100000
/-! The fields of the exception in hand, by its code. -/
namespace VG
open PySem PySem.Spec PyProof.Rows L2
theorem same_upd {H : Hp} {a : Addr} {o : HO} (h : H a = none) : Same H (upd H a o) := fun b u e => by rw [upd_ne (ne_of_none e h)]; exact e
/-- nm stands in l, as `in` tells it -/
def eqIn (l : List Str) (nm : Str) : Bool := (l.map PyData.str).any fun z => PyData.eqv z (.str nm)
/-- p is an own error with the code nm and the fields fs -/
structure Caught (K : PySem.W.Frag) (H : Hp) (p : Addr × Obj) (nm : Str) (fs : List (Str × V)) : Prop where
  ex : ∃ (C dd : Addr), p.2.cls = .ref C ∧ OwnX K C ∧ p.2.dict = some dd ∧ (∃ vs, p.2.data = .fields vs) ∧ H dd = some (.xd fs)
  code : fs.lookup ("code" : Str) = some (V.str nm)
  sh : SeqAt.shaped (.str nm) = true
theorem Caught.same {K : PySem.W.Frag} {H H' : Hp} {p : Addr × Obj} {nm : Str} {fs : List (Str × V)} (e : Same H H') (c : Caught K H p nm fs) : Caught K H' p nm fs := by
  obtain ⟨⟨C, dd, h1, h2, h3, h4, h5⟩, h6, h7⟩ := c
  exact ⟨⟨C, dd, h1, h2, h3, h4, e _ _ h5⟩, h6, h7⟩
theorem Caught.get {K : PySem.W.Frag} {H : Hp} {p : Addr × Obj} {nm f : Str} {fs : List (Str × V)} {v : V} {Q : VK} (c : Caught K H p nm fs) (l : fs.lookup f = some v) (q : Q v H) :
    ∃ (C dd : Addr) (fs : List (Str × V)) (v : V), p.2.cls = .ref C ∧ OwnX K C ∧ p.2.dict = some dd ∧ (∃ vs, p.2.data = .fields vs) ∧ H dd = some (.xd fs) ∧ fs.lookup f = some v ∧ Q v H := by
  obtain ⟨⟨C, dd, h1, h2, h3, h4, h5⟩, _, _⟩ := c
  exact ⟨C, dd, fs, v, h1, h2, h3, h4, h5, l, q⟩
theorem strs_all {K : PySem.W.Frag} {H : Hp} : ∀ l : List Str, DpAll K H (l.map V.str) (l.map PyData.str)
  | [] => .nil
  | x :: l => .cons (.str x) (strs_all l)
section
variable {X : Cx} {p : Addr × Obj} {x f : Str} {i j1 j2 j3 : Nat} {l : List Str} {es fes : List Expr} {p1 p2 p3 p4 p5 p6 p7 p8 p9 : Pos}
/-- the fields ns of the exception in hand, in slot i -/
def tFlds (K : PySem.W.Frag) (p : Addr × Obj) (i : Nat) (ns : List Str) : TA := fun σ H Q => σ[i]? = some (some (.ref p.1)) ∧ ∃ (nm : Str) (fs : List (Str × V)) (ys : List V), Caught K H p nm fs ∧ ns.map (fun f => fs.lookup f) = ys.map some ∧ Q ys H
theorem pa_flds0 : PA X [] (tFlds X.K p i []) := by
  refine ⟨fun pos pins s σ H Q I h => ?_⟩
  obtain ⟨_, nm, fs, ys, _, e, q⟩ := h
  have e2 : ys = [] := by
    cases ys with
    | nil => rfl
    | cons y ys => cases e
  subst e2
  exact pa_nil.run pos pins s σ H Q I q
theorem pa_flds {ns : List Str} (hp : p ∈ X.pn) (hv : PE X (.Name x p1) (tVar i)) (hf : f ∈ exFields) (ha : PA X es (tFlds X.K p i ns)) : PA X (.Attribute (.Name x p1) f p2 :: es) (tFlds X.K p i (f :: ns)) := by
  refine ⟨fun pos pins s σ H Q I h => ?_⟩
  obtain ⟨hs, nm, fs, ys, c, e, q⟩ := h
  match ys, e with
  | y :: ys, e =>
    have e1 := List.cons.inj e
    obtain ⟨C, dd, h1, h2, h3, h4, h5⟩ := c.ex
    refine (pa_cons (pe_xp hp hf hv) ha).run pos pins s σ H Q I ?_
    refine ⟨_, hs, rfl, C, dd, fs, _, h1, h2, h3, h4, h5, e1.1, ?_⟩
    exact ⟨hs, nm, fs, ys, c, e1.2, q⟩
theorem small_line {n : Nat} (h : n ≤ 1000) : n ≤ sizeLine := Nat.le_trans h (by decide)
/-- if a test of the code: return the fields ns -/
def tIfRet (K : PySem.W.Frag) (p : Addr × Obj) (i : Nat) (c : Str → Bool) (ns : List Str) : TS := fun D σ H => σ[i]? = some (some (.ref p.1)) ∧ ∃ (nm : Str) (fs : List (Str × V)), Caught K H p nm fs ∧
  (c nm = true → ∃ ys, ns.map (fun f => fs.lookup f) = ys.map some ∧ ∀ T H', Same H H' → SqT K H' T ys → D.rt (.ref T) H') ∧ (c nm = false → ∀ H', Same H H' → D.nx σ H')
theorem flds_end {K : PySem.W.Frag} {σ : L2.St} {H H1 : Hp} {ns : List Str} {nm : Str} {fs : List (Str × V)} {R : VK} (hl : ns.length ≤ 1000) (hs : σ[i]? = some (some (.ref p.1))) (sm : Same H H1) (c : Caught K H p nm fs)
    (h : ∃ ys, ns.map (fun f => fs.lookup f) = ys.map some ∧ ∀ T H', Same H H' → SqT K H' T ys → R (.ref T) H') : tTup (tFlds K p i ns) σ H1 R := by
  obtain ⟨ys, e, k⟩ := h
  have hz : ys.length = ns.length := by
    have z := congrArg List.length e
    rw [List.length_map, List.length_map] at z
    exact z.symm
  exact ⟨hs, nm, fs, ys, c.same sm, e, small_line (by omega), fun T hT => k T _ (sm.trans (same_upd hT)) (SqT.of upd_same)⟩
theorem ps_inRet {ns : List Str} (hp : p ∈ X.pn) (hu : X.A.units + 65 < cLine) (hl : l.length ≤ 1000) (hn : ns.length ≤ 1000) (sh : SeqAt.shaped (.tuple (l.map PyData.str)) = true) (hv : PE X (.Name x p1) (tVar i))
    (ha : PA X es (fun _ H Q => Q (l.map V.str) H)) (he : PA X fes (tFlds X.K p i ns)) :
    PS X (.If (.Compare (.Attribute (.Name x p1) "code" p3) [.In] [.Tuple es j1 p4] p5) [.Return (some (.Tuple fes j2 p7)) p8] [] p9) (tIfRet X.K p i (eqIn l) ns) := by
  refine ⟨fun pins s σ H D I h => (ps_if (pt_cmpR (op_inT hu) (pe_xp hp (by decide) hv) (pe_tup ha) rfl) (pss_one (ps_ret (pe_tup he))) pss_nil).run pins s σ H D I ?_⟩
  obtain ⟨hs, nm, fs, c, hy, hn⟩ := h
  have hz : (l.map V.str).length ≤ sizeLine := by rw [List.length_map]; exact small_line hl
  refine ⟨_, hs, rfl, c.get c.code ⟨hz, fun T hT => ?_⟩⟩
  have sm := same_upd (o := .tup (l.map V.str)) hT
  refine ⟨.str nm, l.map PyData.str, .str nm, .tup (SqT.of upd_same) (strs_all l), c.sh, sh, eqIn l nm, rfl, ?_⟩
  cases e : eqIn l nm with
  | true => exact iteT (flds_end (by assumption) hs sm c (hy e))
  | false => exact iteF (hn e _ sm)
theorem ps_eqRet {ns : List Str} {z : Str} (hp : p ∈ X.pn) (hn : ns.length ≤ 1000) (hv : PE X (.Name x p1) (tVar i)) (he : PA X fes (tFlds X.K p i ns)) :
    PS X (.If (.Compare (.Attribute (.Name x p1) "code" p3) [.Eq] [.Constant (.str z) j1 p4] p5) [.Return (some (.Tuple fes j2 p7)) p8] [] p9) (tIfRet X.K p i (fun nm => decide (nm = z)) ns) := by
  refine ⟨fun pins s σ H D I h => (ps_if (pt_cmpR op_eq (pe_xp hp (by decide) hv) pe_str rfl) (pss_one (ps_ret (pe_tup he))) pss_nil).run pins s σ H D I ?_⟩
  obtain ⟨hs, nm, fs, c, hy, hn⟩ := h
  obtain ⟨C, dd, h1, h2, h3, h4, h5⟩ := c.ex
  refine ⟨_, hs, rfl, C, dd, fs, _, h1, h2, h3, h4, h5, c.code, ?_⟩
  refine ⟨rfl, decide (nm = z), congrArg V.bl ?_, ?_⟩
  · by_cases y : nm = z
    · subst y
      rw [decide_eq_true rfl, decide_eq_true rfl]
    · rw [decide_eq_false y, decide_eq_false fun q => y (V.str.inj q)]
  cases e : decide (nm = z) with
  | true => exact iteT (flds_end (by assumption) hs (Same.refl H) c (hy e))
  | false => exact iteF (hn e _ (Same.refl H))
/-- return the fields ns if the code is z else () -/
def tEndRet (K : PySem.W.Frag) (p : Addr × Obj) (i : Nat) (z : Str) (ns : List Str) : TS := fun D σ H => σ[i]? = some (some (.ref p.1)) ∧ ∃ (nm : Str) (fs : List (Str × V)), Caught K H p nm fs ∧
  ∃ ys, (if decide (nm = z) = true then ns else []).map (fun f => fs.lookup f) = ys.map some ∧ ∀ T H', Same H H' → SqT K H' T ys → D.rt (.ref T) H'
theorem ps_endRet {ns : List Str} {z : Str} (hp : p ∈ X.pn) (hn : ns.length ≤ 1000) (hv : PE X (.Name x p1) (tVar i)) (he : PA X fes (tFlds X.K p i ns)) :
    PS X (.Return (some (.IfExp (.Compare (.Attribute (.Name x p1) "code" p3) [.Eq] [.Constant (.str z) j1 p4] p5) (.Tuple fes j2 p7) (.Tuple [] j3 p2) p6)) p8) (tEndRet X.K p i z ns) := by
  refine ⟨fun pins s σ H D I h => (ps_ret (pe_ifExp (pt_cmpR op_eq (pe_xp hp (by decide) hv) pe_str rfl) (pe_tup he) (pe_tup (pa_flds0 (p := p) (i := i))))).run pins s σ H D I ?_⟩
  obtain ⟨hs, nm, fs, c, h⟩ := h
  obtain ⟨C, dd, h1, h2, h3, h4, h5⟩ := c.ex
  refine ⟨_, hs, rfl, C, dd, fs, _, h1, h2, h3, h4, h5, c.code, ?_⟩
  refine ⟨rfl, decide (nm = z), congrArg V.bl ?_, ?_⟩
  · by_cases y : nm = z
    · subst y
      rw [decide_eq_true rfl, decide_eq_true rfl]
    · rw [decide_eq_false y, decide_eq_false fun q => y (V.str.inj q)]
  cases e : decide (nm = z) with
  | true =>
    rw [e, if_pos rfl] at h
    exact iteT (flds_end (by assumption) hs (Same.refl H) c h)
  | false =>
    rw [e, if_neg Bool.false_ne_true] at h
    exact iteF (flds_end (by decide) hs (Same.refl H) c h)
end
end VG

set_option maxRecDepth 100000
/-! ask(lambda: ..): ('', what it gives), or (code,) + the fields of the error that it raises. -/
namespace VG
open PySem PySem.Spec PyProof.Rows L2 LamX
open L2H (RoomH roomH_of)
/-- the fields of an error with the code nm, as the law tells them -/
def fieldsOf (nm : Str) : List Str :=
  if eqIn ["InvalidRatio", "InvalidNumber", "InvalidName", "InvalidLayer", "InvalidPlace", "InvalidPoint", "InvalidForm", "InvalidLimit"] nm = true then ["given"]
  else if eqIn ["InvalidRow", "InvalidFact", "InvalidCommand"] nm = true then ["at"]
  else if eqIn ["InvalidStep", "UnlikeEnds"] nm = true then ["path"]
  else if eqIn ["DuplicateName", "UnknownName"] nm = true then ["name"]
  else if eqIn ["InvalidText", "UnknownScript"] nm = true then ["word"]
  else if decide (nm = "InvalidTable") = true then ["layer"]
  else if decide (nm = "InvalidWay") = true then ["layer", "start", "goal"]
  else if decide (nm = "Full") = true then ["limit"]
  else if decide (nm = "InvalidPage") = true then ["line"]
  else if decide (nm = "TooMany") = true then ["subject", "most"] else []
/-- the fields of the error p: of its code's names, in a tuple -/
def spFields (K : PySem.W.Frag) : Addr × Obj → Sp := fun p vs H Q _ => vs = [.ref p.1] ∧ ∃ (nm : Str) (fs : List (Str × V)) (ys : List V), Caught K H p nm fs ∧ (fieldsOf nm).map (fun f => fs.lookup f) = ys.map some ∧ ∀ T H', Same H H' → SqT K H' T ys → Q (.ref T) H'
/-- an own error of class cls, its dict d -/
structure Err (K : PySem.W.Frag) (H : Hp) (cls : Value) (d : Option Addr) (nm : Str) (fs : List (Str × V)) : Prop where
  ex : ∃ (C dd : Addr), cls = .ref C ∧ OwnX K C ∧ d = some dd ∧ H dd = some (.xd fs)
  code : fs.lookup ("code" : Str) = some (V.str nm)
  sh : SeqAt.shaped (.str nm) = true
theorem Err.caught {K : PySem.W.Frag} {H : Hp} {cls : Value} {d : Option Addr} {nm : Str} {fs : List (Str × V)} {a : Addr} {oe : Obj} (e : Err K H cls d nm fs) (hz : Zc cls d oe) (hf : ∃ vs, oe.data = .fields vs) : Caught K H (a, oe) nm fs := by
  obtain ⟨⟨C, dd, h1, h2, h3, h4⟩, h5, h6⟩ := e
  exact ⟨⟨C, dd, hz.1.trans h1, h2, hz.2.trans h3, hf, h4⟩, h5, h6⟩
/-- what ask wishes of an error of the body, cs the classes that it catches -/
def askX (K : PySem.W.Frag) (cs : List Value) (Q : VK) : XK := fun cls d H => PySem.W.exmAny K cls cs = some true ∧ ∃ (nm : Str) (fs : List (Str × V)) (ys : List V), Err K H cls d nm fs ∧ (fieldsOf nm).map (fun f => fs.lookup f) = ys.map some ∧ ys.length ≤ 1000 ∧
  ∀ T H', Same H H' → SqT K H' T (.str nm :: ys) → Q (.ref T) H'
def askQ (Q : VK) : VK := fun x H1 => [V.str "", x].length ≤ sizeLine ∧ ∀ T, H1 T = none → Q (.ref T) (upd H1 T (.tup [.str "", x]))
def TAsk (K : PySem.W.Frag) (cs : List Value) : (XK → Hp → VK → Prop) → Hp → VK → Prop := fun tl H Q => tl (askX K cs Q) H (askQ Q)
section
variable {X : Cx}
/-- the suite: return (e.code,) + fields(e) -/
def tSuite (K : PySem.W.Frag) (i : Nat) : Addr → Value → Option Addr → TS := fun a cls d D σ H => σ[i]? = some (some (.ref a)) ∧ ∃ (nm : Str) (fs : List (Str × V)) (ys : List V), Err K H cls d nm fs ∧ (fieldsOf nm).map (fun f => fs.lookup f) = ys.map some ∧ ys.length ≤ 1000 ∧
  ∀ T H', Same H H' → SqT K H' T (.str nm :: ys) → D.rt (.ref T) H'
theorem ps_suite {a : Addr} {oe : Obj} {cls : Value} {d : Option Addr} {pn : List (Addr × Obj)} {i k : Nat} {e x : Str} {f : Addr} {fd : FuncData} {ps : List Str} {p1 p2 p3 p4 p5 p6 p7 p8 : Pos} {j : Nat}
    (F : FnE X.prog X.w X.K X.mg X.base CX0 k f fd ps (spFields X.K)) (hr : RoomH k X.A) (hg : (X.suite a ((a, oe) :: pn)).env.scope.names.lookup x = some .globalImplicit) (hm : X.mg x = some (.ref f)) (hk : PySem.W.keepIn X.K (.ref f) = true) (hb : L2.Binds X.K fd ps [])
    (hz : Zc cls d oe) (hf : ∃ vs, oe.data = .fields vs) (hv : ∀ p, PE (X.suite a ((a, oe) :: pn)) (.Name e p) (tVar i)) (n1 : (x == ("__debug__" : Str)) = false) :
    PS (X.suite a ((a, oe) :: pn)) (.Return (some (.BinOp (.Tuple [.Attribute (.Name e p1) "code" p2] j p3) .Add (.Call (.Name x p4) [.Name e p5] [] p6) p7)) p8) (tSuite X.K i a cls d) := by
  have hp : (a, oe) ∈ (X.suite a ((a, oe) :: pn)).pn := List.mem_cons_self
  refine ⟨fun pins s σ H D I h => (ps_ret (pe_op op_catT (pe_tup (pa_cons (pe_xp hp (by decide) (hv p1)) pa_nil)) (pe_callE (E := fun _ _ _ => False) (X := X.suite a ((a, oe) :: pn)) F ⟨hr.dp, hr.un⟩ hp hg hm hk hb (fun _ _ _ _ _ _ _ h => h.elim) (pa_cons (hv p5) pa_nil) n1))).run pins s σ H D I ?_⟩
  obtain ⟨hs, nm, fs, ys, er, el, hy, q⟩ := h
  have c := er.caught (a := a) hz hf
  obtain ⟨C, dd, h1, h2, h3, h4, h5⟩ := c.ex
  refine ⟨_, hs, rfl, C, dd, fs, _, h1, h2, h3, h4, h5, c.code, small_line (by show 1 ≤ 1000; decide), fun T hT => ?_⟩
  have sm := same_upd (o := .tup [.str nm]) hT
  refine ⟨_, hs, rfl, nm, fs, ys, c.same sm, el, fun T2 H2 sm2 ht => ?_⟩
  have st : SqT X.K H2 T [.str nm] := Same.tup sm2 (SqT.of upd_same)
  refine ⟨T, T2, [.str nm], ys, rfl, rfl, st, ht, List.cons_ne_nil _ _, Nat.le_trans (Nat.add_le_add_left hy 1) (by decide), fun e => ?_, fun _ T3 hT3 => ?_⟩
  · subst e
    exact q T H2 (sm.trans sm2) st
  · exact q T3 _ ((sm.trans sm2).trans (same_upd hT3)) (SqT.of upd_same)
theorem exm_imp {K : PySem.W.Frag} {cls : Value} {cs : List Value} {Q : VK} {d : Option Addr} {H : Hp} (h : askX K cs Q cls d H) : PySem.W.exmAny K cls cs = some true := h.1
theorem ask_gives {Ng : List Str} {x a e y q xA xB xC : Str} {sg : Scope} {g f : Addr} {fd : FuncData} {ps : List Str} {cA cB cC cdg : Value} {j1 j2 j3 j4 k : Nat} {p1 p2 p3 p4 p5 p6 p7 p8 p9 p10 p11 p12 p13 p14 p15 p16 p17 p18 p19 : Pos}
    (F : FnE X.prog X.w X.K X.mg X.base CX0 k f fd ps (spFields X.K)) (hr : Room (k + 1) X.A) (nd : Ng.Nodup) (h1 : Ng[1]? = some e) (hl : sg.names.lookup e = some .local)
    (gA : sg.names.lookup xA = some .globalImplicit) (gB : sg.names.lookup xB = some .globalImplicit) (gC : sg.names.lookup xC = some .globalImplicit) (gy : sg.names.lookup y = some .globalImplicit)
    (mA : X.mg xA = some cA) (mB : X.mg xB = some cB) (mC : X.mg xC = some cC) (my : X.mg y = some (.ref f)) (hk : PySem.W.keepIn X.K (.ref f) = true) (hb : L2.Binds X.K fd ps [])
    (dA : (xA == ("__debug__" : Str)) = false) (dB : (xB == ("__debug__" : Str)) = false) (dC : (xC == ("__debug__" : Str)) = false) (dy : (y == ("__debug__" : Str)) = false) (de : (e == ("__debug__" : Str)) = false) (dc : (e == ("__classdict__" : Str)) = false)
    (h0 : ∀ f : Addr, (L2.start Ng [V.ref f])[0]? = some (some (V.ref f))) (h2 : 1 < Ng.length) :
    GivesTo X Ng x sg g cdg [.Try [.Return (some (.Tuple [.Constant (.str "") j1 p1, .Call (.Name a p2) [] [] p3] j2 p4)) p5]
      [.ExceptHandler (some (.Tuple [.Name xA p6, .Name xB p7, .Name xC p8] j3 p9)) (some e) [.Return (some (.BinOp (.Tuple [.Attribute (.Name e p10) "code" p11] j4 p12) .Add (.Call (.Name y p13) [.Name e p14] [] p15) p16)) p17] p18] [] [] p19] a q (TAsk X.K [cA, cB, cC]) := by
  intro f' c' s H Q tl act hc h
  have room : RoomH k (cxOf C8.CX0 X.prog X.w X.K X.mg X.base Ng x sg g cdg X.A X.stack s H C8.E0).nox.A := roomH_of (hr.deeper _)
  refine ⟨_, pss_one (ps_try_as3 (X := (cxOf C8.CX0 X.prog X.w X.K X.mg X.base Ng x sg g cdg X.A X.stack s H C8.E0).nox) (c1 := cA) (c2 := cB) (c3 := cC) (i := 1)
      (tb := fun W D σ H => ∃ Ech : XK, (∀ cls d σ' H', Ech cls d H' → W cls d σ' H') ∧ σ[0]? = some (some (.ref f')) ∧ H c' = some (CodeO c' q) ∧ tl Ech H (askQ D.rt))
      (ts := tSuite X.K 1) rfl rfl nd h1 hl ⟨gA, dA, .inl mA⟩ ⟨gB, dB, .inl mB⟩ ⟨gC, dC, .inl mC⟩ (fun W pn xe tk _ => ?_) (fun b oe cls d pn hz hf => ?_)), ?_⟩
  · refine ⟨fun pins s' σ H' D I h' => ?_⟩
    obtain ⟨Ech, hW, e1, e2, e3⟩ := h'
    have hp := act W pn xe Ech p2 p3 tk hW
    have hq := pss_one (st := .Return (some (.Tuple [.Constant (.str "") j1 p1, .Call (.Name a p2) [] [] p3] j2 p4)) p5) (ps_ret (pe_tup (pa_cons pe_str (pa_cons hp pa_nil))))
    exact hq.run pins s' σ H' D I ⟨e1, e2, e3⟩
  · refine pss_one (ps_suite F room ?_ my hk hb hz hf (fun p => pe_var h1 (.inl hl) de dc) dy)
    exact gy
  · refine ⟨askX X.K [cA, cB, cC] Q, fun cls d σ' H' z => ?_, h0 f', hc, h⟩
    obtain ⟨z1, nm, fs, ys, z2, z3, z4, z5⟩ := z
    refine ⟨z1, fun b hb hn => ⟨?_, nm, fs, ys, z2, z3, z4, z5⟩⟩
    have hn : σ'.length = Ng.length := hn
    rw [List.getElem?_set_self (by omega)]
end
end VG

set_option maxRecDepth 100000
/-! A lambda with one parameter that bears a default, handed to a def that calls it without arguments. -/
namespace VG
open PySem PySem.Spec PyProof.Rows L2 LamX
/-! ### its function object -/
abbrev dlFn (qual : Str) (params : Arguments) (body : Expr) (scope : Scope) (cl : List (Str × Addr)) (pm cdv ctv dv : Value) : FuncData := { PySem.W.kla_fn "<lambda>" qual params body scope cl pm cdv ctv with defaults := dv }
abbrev dlObj (qual : Str) (params : Arguments) (body : Expr) (scope : Scope) (cl : List (Str × Addr)) (pm cdv ctv dv : Value) : Obj := { cls := .type "function", data := .func (dlFn qual params body scope cl pm cdv ctv dv) }
abbrev oneTup (u : Value) : Obj := { cls := .type "tuple", data := .seq [u].toArray }
section
variable {M : Model} {A : Around} {E : Value → Shared → Prop} {s : Shared} {Q : Value → Shared → Prop}
/-- the closure's tuple, if there is one -/
theorem clo_tup {clos : List (Str × Addr)} {k : Value → Sem Value} (h : ∀ (ctv : Value) (h1 : Heap), (∀ b o, s.heap.get? b = some o → h1.get? b = some o) → s.heap.objs.size ≤ h1.objs.size → wpAny M A (k ctv) Q E { s with heap := h1 }) :
    wpAny M A (do
      let t ← if clos.isEmpty then pure .none else newTextTuple ((clos.mergeSort fun a b => a.1.cps.toList ≤ b.1.cps.toList).map (.ref ·.2))
      k t) Q E s := by
  match clos with
  | [] => exact wpAny_bind (wpAny_pure (h .none s.heap (fun _ _ e => e) (Nat.le_refl _)))
  | q :: r =>
    refine wpAny_bind (wpAny_newTextTuple (h _ _ (fun b o e => Heap.get?_push_of_some _ e) ?_))
    rw [Heap.size_push]
    omega
variable {qual : Str} {params : Arguments} {body : Expr} {scope : Scope} {env : Env} {c P : Addr} {ps : Array Value} {pos : Pos} {line : Nat} {mg : Str → Option Value} {clos : List (Str × Addr)} {dv : Value}
/-- it is made: its code object stands in the table -/
theorem dl_hit {cv : Value} (hcl : closureFor scope env = pure clos) (eg : env.globals = mainGlobals) (gm : s.heap.Ns mainGlobals mg) (ec : env.code = .ref c) (C : PySem.W.CodeHd s.heap c P) (tab : s.heap.get? P = some { cls := .none, data := .fields ps }) (ok : TriplesOk ps.toList)
    (hit : codeAmong pos ps.toList = some cv) (bl : s.heap.BuiltinsAt mg P)
    (h : ∀ (ctv : Value) (h1 : Heap) (tk : Tok), (∀ b o, s.heap.get? b = some o → h1.get? b = some o) → s.heap.objs.size ≤ h1.objs.size →
      Q (.ref h1.objs.size) { s with heap := h1.push (dlObj qual params body scope clos ((mg "__name__").getD .none) cv ctv dv), toks := tk }) :
    wpAny M A (makeTail "<lambda>" qual params (.expr body) scope env dv .none none pos line) Q E s := by
  obtain ⟨bm, ob, y1, y2, _, _, y5, y6, y7, y8⟩ := bl
  unfold makeTail
  rw [hcl, eg]
  refine wpAny_bind (wpAny_pure (clo_tup fun ctv h1 kp sz => ?_))
  refine wpAny_bind (wpAny_functionCode_hit ec ((C.keeps kp).code (kp _ _ tab) ok) hit ?_)
  refine wpAny_bind (wpAny_builtinsFor (gm.keeps kp) y1 y2 (kp _ _ y5) y6 y7 y8 ?_)
  exact wpAny_bind (wpAny_nsGet (gm.keeps kp) (wpAny_bind (wpAny_pure (wpAny_newObj_type (h ctv h1 s.toks kp sz) (by size_fits)))))
/-- it is made: its code object is new -/
theorem dl_new (hcl : closureFor scope env = pure clos) (eg : env.globals = mainGlobals) (gm : s.heap.Ns mainGlobals mg) (ec : env.code = .ref c) (C : PySem.W.CodeHd s.heap c P) (tab : s.heap.get? P = some { cls := .none, data := .fields ps }) (ok : TriplesOk ps.toList)
    (miss : codeAmong pos ps.toList = none) (gP : mainGlobals ≠ P) (bl : s.heap.BuiltinsAt mg P)
    (h : ∀ (c' : Addr) (ctv : Value) (h1 : Heap) (tk : Tok), Heap.ExtBut P s.heap h1 → s.heap.objs.size ≤ c' → c' < h1.objs.size → h1.CodeRec (.ref c') qual → h1.get? P = some { cls := .none, data := .fields (ps ++ #[rawInt pos.line, rawInt pos.col, .ref c']) } →
      Q (.ref h1.objs.size) { s with heap := h1.push (dlObj qual params body scope clos ((mg "__name__").getD .none) (.ref c') ctv dv), toks := tk }) :
    wpAny M A (makeTail "<lambda>" qual params (.expr body) scope env dv .none none pos line) Q E s := by
  obtain ⟨bm, ob, y1, y2, _, y4, y5, y6, y7, y8⟩ := bl
  unfold makeTail
  rw [hcl, eg]
  refine wpAny_bind (wpAny_pure (clo_tup fun ctv h1 kp sz => ?_))
  refine wpAny_bind (wpAny_functionCodeX ec ((C.keeps kp).code (kp _ _ tab) ok) ((C.keeps kp).tab (kp _ _ tab)) miss fun c' h2 tk ext ge lt _ rec there _ => ?_)
  have gm2 := (gm.keeps kp).extBut ext gP
  refine wpAny_bind (wpAny_builtinsFor gm2 y1 y2 (ext _ _ y4 (kp _ _ y5)) y6 y7 y8 ?_)
  refine wpAny_bind (wpAny_nsGet gm2 (wpAny_bind (wpAny_pure (wpAny_newObj_type (h c' ctv h2 tk (fun b o n e => ext b o n (kp b o e)) (Nat.le_trans sz ge) lt rec there.2) (by size_fits)))))
end
/-! ### made, in the layer -/
section
variable {X : Cx} {pins : List (Addr × Obj)} {σ : L2.St} {H : Hp} {s : Shared}
/-- an object that nothing tracks and no frame is -/
structure Loose (X : Cx) (H : Hp) (s : Shared) (a : Addr) (o : Obj) : Prop where
  get : s.heap.get? a = some o
  free : H a = none
  nofr : a ∉ frs X.stack
theorem new_nofr (I : Inv X pins σ H s) {a : Addr} (h : s.heap.objs.size ≤ a) : a ∉ frs X.stack := fun z => by
  rcases List.mem_cons.mp (I.stkSub _ z) with e | e
  · have h1 := I.lt
    rw [← e] at h1
    exact Nat.lt_irrefl _ (Nat.lt_of_lt_of_le h1 h)
  · exact I.nofs h e
/-- ps's tables and all else, a new code object in one of them -/
theorem tabs_new {T : List (Addr × Str)} {P c' : Addr} {q : Str} {ps : Array Value} {p0 : Pos} (hT : Tabs T H) (hP : H P = some (.tbl ps)) (ok : TriplesOk ps.toList) (at' : ∀ (pos : Pos) (cv : Value), codeAmong pos ps.toList = some cv → ∃ c, cv = .ref c ∧ H c = some (CodeO c q))
    (nC : H c' = none) (hu : ∀ p ∈ T, p.1 = P → p.2 = q) :
    ExtN H (upd (upd H P (.tbl (ps ++ #[rawInt p0.line, rawInt p0.col, .ref c']))) c' (CodeO c' q)) ∧ Tabs T (upd (upd H P (.tbl (ps ++ #[rawInt p0.line, rawInt p0.col, .ref c']))) c' (CodeO c' q)) := by
  have e1 : ExtN H (upd (upd H P (.tbl (ps ++ #[rawInt p0.line, rawInt p0.col, .ref c']))) c' (CodeO c' q)) := fun b o e n => by
    have nP : b ≠ P := fun z => by
      rw [z, hP] at e
      exact n ps (Option.some.inj e).symm
    rw [upd_ne (ne_of_none e nC), upd_ne nP]
    exact e
  have el : (ps ++ #[rawInt p0.line, rawInt p0.col, .ref c']).toList = ps.toList ++ [rawInt p0.line, rawInt p0.col, .ref c'] := by simp
  refine ⟨e1, fun p hp => ?_⟩
  by_cases hb : p.1 = P
  · rw [hu p hp hb, hb]
    refine ⟨_, by rw [upd_ne (ne_of_none hP nC), upd_same], by rw [el]; exact PySem.TriplesOk_snoc _ _ _ _ ok, fun p' cv hcv => ?_⟩
    rw [el] at hcv
    rcases among_app _ ok hcv with z | z
    · obtain ⟨c0, z1, z2⟩ := at' p' cv z
      exact ⟨c0, z1, e1 _ _ z2 codeO_ne⟩
    · exact ⟨c', z, upd_same⟩
  · obtain ⟨qs, a1, a2, a3⟩ := hT p hp
    refine ⟨qs, by rw [upd_ne (ne_of_none a1 nC), upd_ne hb]; exact a1, a2, fun p' cv hcv => ?_⟩
    obtain ⟨c0, z1, z2⟩ := a3 p' cv hcv
    exact ⟨c0, z1, e1 _ _ z2 codeO_ne⟩
/-- lambda a=z: body, evaluated -/
theorem dl_make {T : List (Addr × Str)} {c P : Addr} {params : Arguments} {body : Expr} {scope : Scope} {pos p0 : Pos} {z : Int} {j : Nat} {E : Value → Shared → Prop} {Q : Value → Shared → Prop} (I : Inv X pins σ H s) (TB : TabB X.base X.mg c P) (hcode : X.env.code = .ref c)
    (hm : (P, X.env.qual ++ "<lambda>") ∈ T) (hu : ∀ p ∈ T, p.1 = P → p.2 = X.env.qual ++ "<lambda>") (hT : Tabs T H) (hdef : defaultsOf params X.env = ([eval (.Constant (.int z) j p0) X.env], [])) (hkw : params.kwonlyargs = [])
    (hfree : ∀ y ∈ scope.names, y.2 = .free → ∃ c, X.env.cells.lookup y.1 = some c) (hE : ∀ e s', X.xe e s' → E e s')
    (h : ∀ (f D c' : Addr) (pm ctv u : Value) (H1 : Hp) (s' : Shared), Inv X pins σ H1 s' → ExtN H H1 → Tabs T H1 → RelV (.int z) u → Loose X H1 s' D (oneTup u) →
      Loose X H1 s' f (dlObj (X.env.qual ++ "<lambda>") params body scope (cloFrom X.env.cells scope.names []) pm (.ref c') ctv (.ref D)) → H1 c' = some (CodeO c' (X.env.qual ++ "<lambda>")) → Q (.ref f) s') :
    wpAny (model X.prog X.w) X.A (eval (.Lambda params body scope pos) X.env) Q E s := by
  rw [arm_eval_Lambda, hdef]
  show wpAny (model X.prog X.w) X.A (do let dv ← evalAll [eval (.Constant (.int z) j p0) X.env]; let kdv ← holding dv (evalAllOpt []); makeFunction "<lambda>" (X.env.qual ++ "<lambda>") params (.expr body) scope X.env dv kdv [] pos pos.line) Q E s
  refine wpAny_bind ?_
  show wpAny (model X.prog X.w) X.A (do let v ← eval (.Constant (.int z) j p0) X.env; return v :: (← holding [v] (evalAll []))) _ E s
  refine wpAny_bind (wpAny_mono ((pe_int (X := X)).run pins s σ H (fun v H1 => v = .int z ∧ H1 = H) I ⟨rfl, rfl⟩) (fun u s1 hh => ?_) hE)
  obtain ⟨v, H1, I1, rv, ev, eH⟩ := hh
  subst ev
  rw [eH] at I1
  refine wpAny_bind (wpAny_holding (wpAny_pure (wpAny_pure ?_)))
  refine wpAny_bind (wpAny_holding (wpAny_pure ?_))
  rw [makeFunction_eq, hkw]
  simp only [List.zip_nil_left, List.filterMap_nil, List.isEmpty_nil, List.isEmpty_cons, if_true, Bool.false_eq_true, if_false, pure_bind]
  refine wpAny_bind (wpAny_newTextTuple ?_)
  have D0 : s1.heap.objs.size ≤ s1.heap.objs.size := Nat.le_refl _
  have I2 : Inv X pins σ H { s1 with heap := s1.heap.push (oneTup u), toks := s1.toks } := I1.kept fun b o e => Heap.get?_push_of_some _ e
  obtain ⟨ps, hP, ok, at'⟩ := hT _ hm
  have gP : (s1.heap.push (oneTup u)).get? P = some { cls := .none, data := .fields ps } := I2.hok P _ hP
  have bl : (s1.heap.push (oneTup u)).BuiltinsAt X.mg P := TB.bm.keeps I2.bk
  have dGet : (s1.heap.push (oneTup u)).get? s1.heap.objs.size = some (oneTup u) := Heap.get?_push_size _ rfl
  have dFree : H s1.heap.objs.size = none := I1.hok.fresh (Nat.le_refl _)
  have dNofr : s1.heap.objs.size ∉ frs X.stack := new_nofr I1 (Nat.le_refl _)
  have nDP : s1.heap.objs.size ≠ P := fun z => by
    rw [z, hP] at dFree
    cases dFree
  have sz1 : (s1.heap.push (oneTup u)).objs.size = s1.heap.objs.size + 1 := Heap.size_push _ _
  cases e : codeAmong pos ps.toList with
  | some cv =>
    obtain ⟨c', rfl, hco⟩ := at' pos cv e
    refine dl_hit (mg := X.mg) (c := c) (P := P) (ps := ps) (closure_ok hfree) I2.ok.glob (I2.mod.glob.keeps I2.bk) hcode (TB.code.keeps I2.bk) gP ok e bl fun ctv h1 tk kp sz => ?_
    have sz : (s1.heap.push (oneTup u)).objs.size ≤ h1.objs.size := sz
    have kp : ∀ b o, (s1.heap.push (oneTup u)).get? b = some o → h1.get? b = some o := kp
    have I3 : Inv X pins σ H { s1 with heap := h1.push (dlObj (X.env.qual ++ "<lambda>") params body scope (cloFrom X.env.cells scope.names []) ((X.mg "__name__").getD .none) (.ref c') ctv (.ref s1.heap.objs.size)), toks := tk } := I2.kept fun b o q => Heap.get?_push_of_some _ (kp b o q)
    exact h h1.objs.size s1.heap.objs.size c' _ ctv u H _ I3 (ExtN.refl H) hT rv ⟨Heap.get?_push_of_some _ (kp _ _ dGet), dFree, dNofr⟩ ⟨Heap.get?_push_size _ rfl, I1.hok.fresh (by omega), new_nofr I1 (by omega)⟩ hco
  | none =>
    refine dl_new (mg := X.mg) (c := c) (P := P) (ps := ps) (closure_ok hfree) I2.ok.glob (I2.mod.glob.keeps I2.bk) hcode (TB.code.keeps I2.bk) gP ok e TB.gP bl fun c' ctv h1 tk ext ge lt rec tab => ?_
    obtain ⟨c2, oc, vs, t, e2, hoc, hd, hv⟩ := rec
    cases e2
    have ge : (s1.heap.push (oneTup u)).objs.size ≤ c' := ge
    have ext : ∀ b o, b ≠ P → (s1.heap.push (oneTup u)).get? b = some o → h1.get? b = some o := ext
    have nC : H c' = none := I1.hok.fresh (by omega)
    have I3 := inv_table (t' := tk) (more := #[rawInt pos.line, rawInt pos.col, .ref c']) (h' := h1.push (dlObj (X.env.qual ++ "<lambda>") params body scope (cloFrom X.env.cells scope.names []) ((X.mg "__name__").getD .none) (.ref c') ctv (.ref s1.heap.objs.size))) I2 hP
      (fun b o hb q => Heap.get?_push_of_some _ (ext b o hb q)) (Heap.get?_push_of_some _ tab) ge ⟨oc, vs, t, Heap.get?_push_of_some _ hoc, hd, hv⟩
    obtain ⟨x1, x2⟩ := tabs_new (p0 := pos) (c' := c') hT hP ok at' nC hu
    have off : ∀ b, s1.heap.objs.size ≤ b → b ≠ c' → b ≠ P → upd (upd H P (.tbl (ps ++ #[rawInt pos.line, rawInt pos.col, .ref c']))) c' (CodeO c' (X.env.qual ++ "<lambda>")) b = none := fun b hb n1 n2 => by
      rw [upd_ne n1, upd_ne n2]
      exact I1.hok.fresh hb
    have hPlt : @LT.lt Nat _ P s1.heap.objs.size := I1.hok.lt hP
    have lt : @LT.lt Nat _ c' h1.objs.size := lt
    have ge : @LE.le Nat _ (s1.heap.push (oneTup u)).objs.size c' := ge
    have n1 : @Ne Nat s1.heap.objs.size c' := by omega
    have n2 : @LE.le Nat _ s1.heap.objs.size h1.objs.size := by omega
    have n3 : @Ne Nat h1.objs.size c' := by omega
    have n4 : @Ne Nat h1.objs.size P := by omega
    exact h h1.objs.size s1.heap.objs.size c' _ ctv u _ _ I3 x1 x2 rv ⟨Heap.get?_push_of_some _ (ext _ _ nDP dGet), off _ (Nat.le_refl _) n1 nDP, dNofr⟩ ⟨Heap.get?_push_size _ rfl, off _ n2 n3 n4, new_nofr I1 n2⟩ upd_same
end
/-! ### its names, its call -/
/-- one name of its own, a, that the maker doesn't use; captured ones and globals -/
structure LamD (sc scope : Scope) (a : Str) (N : List Str) : Prop where
  kind : scope.kind = .function
  co : scope.isCoroutine = false
  gen : scope.isGenerator = false
  noc : ∀ y ∈ scope.names, y.2 ≠ .cell
  own : ∀ y ∈ scope.names, y.2 = .local → y.1 = a
  par : scope.names.lookup a = some .local
  out : a ∉ N
  free : ∀ y ∈ scope.names, y.2 = .free → sc.names.lookup y.1 = some .cell ∨ sc.names.lookup y.1 = some .free
def lamDB (sc scope : Scope) (a : Str) (N : List Str) : Bool :=
  decide (scope.kind = .function) && (!scope.isCoroutine && (!scope.isGenerator && (decide (scope.names.lookup a = some .local) && (!N.contains a &&
    scope.names.all fun y => !decide (y.2 = .cell) && ((!decide (y.2 = .local) || decide (y.1 = a)) && (!decide (y.2 = .free) || (decide (sc.names.lookup y.1 = some .cell) || decide (sc.names.lookup y.1 = some .free))))))))
theorem lamD_by {sc scope : Scope} {a : Str} {N : List Str} (h : lamDB sc scope a N = true) : LamD sc scope a N := by
  unfold lamDB at h
  simp only [Bool.and_eq_true, Bool.or_eq_true, Bool.not_eq_true', decide_eq_true_eq, decide_eq_false_iff_not, List.all_eq_true] at h
  obtain ⟨h1, h2, h3, h4, h5, h6⟩ := h
  refine ⟨h1, h2, h3, fun y hy => (h6 y hy).1, fun y hy e => (h6 y hy).2.1.resolve_left fun z => z e, h4, fun z => ?_, fun y hy e => (h6 y hy).2.2.resolve_left fun z => z e⟩
  rw [List.contains_iff_mem.mpr z] at h5
  cases h5
theorem LamD.has {X : Cx} {scope : Scope} {a : Str} {N : List Str} (L : LamD X.env.scope scope a N) (ok : X.Ok) : ∀ y ∈ scope.names, y.2 = .free → ∃ c, X.env.cells.lookup y.1 = some c :=
  fun y hy e => ok.has _ ((L.free y hy e).elim (fun k => .inl k) fun k => .inr k)
section
variable {X : Cx} {pins : List (Addr × Obj)} {σ : L2.St} {H HZ : Hp} {s s1 : Shared}
theorem dl_start {A : Around} {outer : List Env} {E : XK} {scope : Scope} {f c' : Addr} {a : Str} {u : Value} {h1 : Heap} {tk : Nat} (I : Inv X pins σ H s) (L : LamD X.env.scope scope a X.N) (e0 : Env0 X.prog X.w X.K X.mg X.base A outer s1 HZ) (hd : A.handled = none)
    (un : Un (frs X.stack) [] H HZ s.heap s1.heap) (hns : h1.Ns s1.heap.objs.size fun y => ([(a, u)] : List (Str × Value)).reverse.lookup y) (kp : ∀ b o, s1.heap.get? b = some o → h1.get? b = some o) :
    Inv (lamCx X A outer s1 HZ E scope f c') [] σ HZ { s1 with heap := h1, toks := tk } := by
  have caught : ∀ {y c}, (cloFrom X.env.cells scope.names []).lookup y = some c → X.env.cells.lookup y = some c := fun {y c} e => by
    rcases cloFrom_mem (PySem.mem_of_lookup e) with hm | ⟨h1, h2⟩
    · cases hm
    · obtain ⟨c1, hc⟩ := L.has I.ok _ h1 rfl
      have hc : X.env.cells.lookup y = some c1 := hc
      rw [hc] at h2
      rw [show c = c1 from h2]
      exact hc
  have looks : ∀ {y}, scope.names.lookup y = some .free → ∃ c, (cloFrom X.env.cells scope.names []).lookup y = some c := fun {y} hl => mem_lookup (cloFrom_has (cells := X.env.cells) (acc := []) (PySem.mem_of_lookup hl))
  have stays : ∀ {c : Addr} {v : Option Value}, H c = none → s.heap.IsCell c v → h1.IsCell c v := fun {c v} n ⟨o, ho, hd⟩ => by
    obtain ⟨sl, q⟩ := un.any ho n (by simp)
    exact ⟨_, kp _ _ q, hd⟩
  have noX : ∀ b : Addr, b ∉ (lamCx X A outer s1 HZ E scope f c').ex := fun b z => absurd (show b ∈ ([] : List Addr) from z) (by simp)
  have okX : (lamCx X A outer s1 HZ E scope f c').Ok := by
    refine ⟨e0.mod, L.kind, rfl, rfl, Nat.le_refl _, fun y z c h1 h2 => I.ok.inj y z c (caught h1) (caught h2), fun y hy => ?_, fun _ _ z _ => Bool.noConfusion (show false = true from z), fun _ => hd, Around.frames_deeper e0.frames, .inr ⟨rfl, rfl⟩, fun b z => absurd z (noX b), e0.bs, e0.bsz, fun b _ _ => noX b,
      fun b z => absurd z (noX b), e0.funs, e0.frf⟩
    have hy : scope.names.lookup y = some .cell ∨ scope.names.lookup y = some .free := hy
    exact hy.elim (fun hy => absurd rfl (L.noc _ (PySem.mem_of_lookup hy))) looks
  refine ⟨okX, rfl, e0.bare, Un.kept kp, ⟨_, hns, fun i y v g1 g2 g3 => ?_⟩, fun y c e => ?_, e0.hok.fresh (Nat.le_refl _), fun y c e => ?_, fun q hq => absurd (show q ∈ ([] : List (Addr × Obj)) ++ [] from hq) (by simp), e0.hok.kept kp, I.len⟩
  · have g3 : Vis scope y := g3
    rcases g3 with k | k | k
    · have e := L.own _ (PySem.mem_of_lookup k) rfl
      have e : y = a := e
      exact absurd (List.mem_of_getElem? g1) (by rw [e]; exact L.out)
    · exact absurd rfl (L.noc _ (PySem.mem_of_lookup k))
    · obtain ⟨m, hn, hl⟩ := I.loc
      have fr := L.free _ (PySem.mem_of_lookup k) rfl
      obtain ⟨w', r, q⟩ := hl i y v g1 g2 (fr.elim (fun k => .inr (.inl k)) fun k => .inr (.inr k))
      obtain ⟨c2, h2⟩ := looks k
      have c1 := caught h2
      refine ⟨w', r, .inr ⟨.inr k, c2, h2, ?_⟩⟩
      rcases q with ⟨kl, _⟩ | ⟨_, c3, e', z⟩
      · have kl : X.env.scope.names.lookup y = some .local := kl
        rcases fr with k2 | k2 <;> rw [show X.env.scope.names.lookup y = _ from k2] at kl <;> cases kl
      · rw [c1] at e'
        cases e'
        exact stays (I.freeC y _ c1) z
  · obtain ⟨w', z⟩ := I.cell y c (caught e)
    exact ⟨w', stays (I.freeC y c (caught e)) z⟩
  · obtain ⟨v, o, ho, hd⟩ := I.cell y c (caught e)
    exact un.free c o ho (I.freeC y c (caught e)) (by simp)
/-- it is called, in the def that got it -/
theorem dl_act {CXg : CXT} {Eg : XK} {Ng : List Str} {qg x : Str} {sg : Scope} {g f D c' : Addr} {cdg pm ctv u : Value} {params : Arguments} {body : Expr} {scope : Scope} {k i : Nat} {a : Str} {pn : List (Addr × Obj)} {xe : Value → Shared → Prop} {W : WX} {E : XK} {tb : TE} {p1 p2 : Pos}
    (I : Inv X pins σ H s) (L : LamD X.env.scope scope a X.N) (hf : Loose X H s f (dlObj (X.env.qual ++ "<lambda>") params body scope (cloFrom X.env.cells scope.names []) pm (.ref c') ctv (.ref D))) (hD : Loose X H s D (oneTup u))
    (hb : ∀ s2 : Shared, s2.heap.get? D = some (oneTup u) → BindsTo s2 (dlFn (X.env.qual ++ "<lambda>") params body scope (cloFrom X.env.cells scope.names []) pm (.ref c') ctv (.ref D)) ⟨[], []⟩ [(a, u)])
    (tk : Takes ((cxOf CXg X.prog X.w X.K X.mg X.base Ng qg sg g cdg X.A X.stack s H Eg).tr pn xe) W) (hW : ∀ cls d σ' H', E cls d H' → W cls d σ' H') (hr : Room (k + 1) (X.A.deeper (envOfC qg sg s.heap.objs.size g cdg)))
    (bodyOk : ∀ (A : Around) (outer : List Env) (s : Shared) (H : Hp), Room k (A.deeper (lamEnv X scope s.heap.objs.size f c')) → PE (lamCx X A outer s H E scope f c') body tb)
    (hN : Ng[i]? = some x) (hv : Vis sg x) (n1 : (x == ("__debug__" : Str)) = false := by decide) (n2 : (x == ("__classdict__" : Str)) = false := by decide) :
    PE ((cxOf CXg X.prog X.w X.K X.mg X.base Ng qg sg g cdg X.A X.stack s H Eg).tr pn xe) (.Call (.Name x p1) [] [] p2)
      (fun σZ HZ Q => σZ[i]? = some (some (.ref f)) ∧ HZ c' = some (CodeO c' (X.env.qual ++ "<lambda>")) ∧ tb σ HZ Q) := by
  refine ⟨fun pinsZ sZ σZ HZ Q IZ ⟨hs, hc, ht⟩ => wpAny_Call_Name_kw (thn ((pe_var (pos := p1) (i := i) hN hv n1 n2).run pinsZ sZ σZ HZ (fun v H1 => v = .ref f ∧ H1 = HZ) IZ ⟨.ref f, hs, rfl, rfl⟩) fun w s1 ⟨v, H1, I1, r1, ev, eH⟩ => ?_)⟩
  subst ev
  rw [eH] at I1
  obtain rfl : w = Value.ref f := r1
  have still : ∀ {b : Addr} {o : Obj}, Loose X H s b o → s1.heap.get? b = some o := fun {b o} l => I1.base.keep b o l.get l.free l.nofr (fun z => nomatch (show b ∈ ([] : List Addr) from z))
  refine PySem.W.callWith_F0 ⟨_, _, _, _, still hf⟩ ?_
  obtain ⟨⟨oc, vs, t, hoc, hdc, hvc⟩, _, _⟩ := I1.hok c' _ hc
  have run : codeAny (model X.prog X.w) (X.A.deeper (envOfC qg sg s.heap.objs.size g cdg)) (.call (.ref f) ⟨[], []⟩) (CR (L2.CX X.prog X.w) (envOfC qg sg s.heap.objs.size g cdg :: X.stack) X.prog X.w HZ s1 Q E) s1 := by
    refine PySem.W.kla_callFunE hr.depth (still hf) rfl L.co L.gen rfl ⟨c', oc, vs, t, rfl, hoc, hdc, hvc⟩ (hb s1 (still hD) _ _ _ _ ?_)
    refine wpAny_newFunctionEnv (fun y hy => L.noc y hy) (fun y hy => ?_) (fun h1 hns hsb => ⟨I1.nolimit.fresh _ hsb, ?_⟩) L.kind
    · obtain rfl := List.mem_singleton.mp hy
      exact L.par
    show codeAny _ _ (.expr body (lamEnv X scope s1.heap.objs.size f c')) _ _
    have kp : ∀ b o, s1.heap.get? b = some o → h1.get? b = some o := fun b o e => hsb.extBut b o (Nat.ne_of_lt (Heap.lt_size e)) (Heap.get?_push_of_some _ e)
    have J : Inv (lamCx X (X.A.deeper (envOfC qg sg s.heap.objs.size g cdg)) (envOfC qg sg s.heap.objs.size g cdg :: X.stack) s1 HZ E scope f c') [] σ HZ { s1 with heap := h1, toks := s1.toks + ([(a, u)] : List (Str × Value)).length } :=
      dl_start I L I1.env0 hr.hd I1.base hns kp
    refine PySem.W.kla_codeExpr (wpAny_mono ((bodyOk _ _ s1 HZ (hr.deeper _)).run [] _ _ HZ Q J ht) (fun v s' hq => ?_) fun _ _ hq => hq)
    obtain ⟨y, H', J', rv, q⟩ := hq
    exact ⟨y, H', J'.os, J'.bare, J'.base, J'.hok, rv, q⟩
  have hx : Passes (L2.CX X.prog X.w) ((cxOf CXg X.prog X.w X.K X.mg X.base Ng qg sg g cdg X.A X.stack s H Eg).tr pn xe) E := passes_call tk hW
  refine wpAny_call (codeAny_mono run fun r s' hq => ?_)
  match r, hq with
  | .error e, hq => exact hx pinsZ σZ HZ s1 e s' I1 hq
  | .ok (.ret u), hq => exact I1.after hq
  | .ok .next, hq => exact hq.elim
  | .ok .brk, hq => exact hq.elim
  | .ok .cont, hq => exact hq.elim
/-- g(lambda a=z: body) -/
theorem pe_dlcall {T : List (Addr × Str)} {TT : (XK → Hp → VK → Prop) → Hp → VK → Prop} {x y a : Str} {g c P : Addr} {k j : Nat} {z : Int} {pg : Arguments} {bg : List Stmt} {sg : Scope} {dV kV doc pm cdv ct oc : Value} {an od : Option Addr} {osl : Array (Option Value)} {Ng : List Str}
    {params : Arguments} {body : Expr} {scope : Scope} {t : XK → TE} {p p0 lpos pos : Pos} (hg : Gl X x) (hm : X.mg x = some (.ref g)) (hk : PySem.W.keepIn X.K (.ref g) = true)
    (lk : X.K.lookup g = some ⟨oc, od, .func (PySem.W.fnOf x x pg bg sg dV kV doc pm an cdv ct), osl⟩) (hcg : PySem.W.codeIn X.K cdv x = true) (hb : L2.Binds X.K (PySem.W.fnOf x x pg bg sg dV kV doc pm an cdv ct) [y] []) (Sg : FnScope Ng [y] sg) (hNg : Ng[0]? = some y) (hva : Vis sg y)
    (hG : GivesTo X Ng x sg g cdv bg y (X.env.qual ++ "<lambda>") TT)
    (TB : TabB X.base X.mg c P) (hcode : X.env.code = .ref c) (hmT : (P, X.env.qual ++ "<lambda>") ∈ T) (hu : ∀ p ∈ T, p.1 = P → p.2 = X.env.qual ++ "<lambda>") (hr : Room (k + 2) X.A) (L : LamD X.env.scope scope a X.N)
    (hdef : defaultsOf params X.env = ([eval (.Constant (.int z) j p0) X.env], [])) (hkw : params.kwonlyargs = [])
    (binds : ∀ (q : Str) (cl : List (Str × Addr)) (pm cv ctv u : Value) (D : Addr) (s2 : Shared), s2.heap.get? D = some (oneTup u) → BindsTo s2 (dlFn q params body scope cl pm cv ctv (.ref D)) ⟨[], []⟩ [(a, u)])
    (bodyOk : ∀ (A : Around) (outer : List Env) (s : Shared) (H : Hp) (E : XK) (f c' : Addr), Room k (A.deeper (lamEnv X scope s.heap.objs.size f c')) → PE (lamCx X A outer s H E scope f c') body (t E))
    (n0 : (x == ("__debug__" : Str)) = false := by decide) (n1 : (y == ("__debug__" : Str)) = false := by decide) (n2 : (y == ("__classdict__" : Str)) = false := by decide) :
    PE X (.Call (.Name x p) [.Lambda params body scope lpos] [] pos) (tLam T TT t) := by
  refine ⟨fun pins s σ H Q I ⟨hT, h⟩ => wpAny_Call_Name_kw (ld_glob I hg hm (PySem.W.callWith_K (h₀ := X.base) I.ok.mod.kin hk ?_ (by rfl) (by rfl)) n0)⟩
  show wpAny _ _ (spliced ((false, eval (.Lambda params body scope lpos) X.env) :: backTo pos (starEach [] X.env))) _ _ s
  refine Calls.spliced_cons (dl_make I TB hcode hmT hu hT hdef hkw (L.has I.ok) (fun _ _ z => z) fun f D c' pm' ctv u H1 s' I1 eN T1 ru hD hf hco => Calls.spliced_nil ⟨I1.kIn, ?_⟩)
  have run : codeAny (model X.prog X.w) X.A (.call (.ref g) ⟨[.ref f], []⟩) (CR C8.CX0 X.stack X.prog X.w H1 s' Q C8.E0) s' := by
    refine run_ofS (N := Ng) (ps := [y]) (us := [.ref f]) (vs := [.ref f]) lk hcg Sg hr I1.env0 (hb s' [.ref f] I1.kIn rfl) (.cons rfl .nil) rfl fun hr' => ?_
    obtain ⟨t', ht', hq'⟩ := hG f c' s' H1 Q (fun E H' Q' => t E σ H' Q') (fun W pn xe E p1 p2 tk hW => dl_act (i := 0) I1 L hf hD (fun s2 q => binds _ _ _ _ _ _ _ s2 q) tk hW hr' (fun A outer s H hr2 => bodyOk A outer s H E f c' hr2) hNg hva n1 n2) hco (h H1 eN T1)
    exact ⟨t', ht'.nox, hq'⟩
  refine wpAny_call (codeAny_mono run fun r s2 hq => ?_)
  match r, hq with
  | .error e, hq => exact (show False from hq).elim
  | .ok (.ret u), hq => exact I1.after hq
  | .ok .next, hq => exact hq.elim
  | .ok .brk, hq => exact hq.elim
  | .ok .cont, hq => exact hq.elim
end
end VG

set_option maxRecDepth 100000
/-! Data: their types, their sizes, data that stand on new addresses alone. -/
namespace VG
open PySem PySem.Spec PyProof.Rows L2
def tyN : PyData → String
  | .none => "NoneType"
  | .bool _ => "bool"
  | .int _ => "int"
  | .str _ => "str"
  | .list _ => "list"
  | .tuple _ => "tuple"
  | .dict _ => "dict"
theorem tyx_list {K : PySem.W.Frag} {H : Hp} {a : Addr} {xs : List V} (h : SqL K H a xs) : TyX K H (.ref a) (.type "list") := by
  rcases h with (h | ⟨o, h⟩) | ⟨o, its, n, h, c, _⟩
  · exact .base (.lst h)
  · exact .base (.frz h)
  · exact .kList h c
theorem tyx_tup {K : PySem.W.Frag} {H : Hp} {a : Addr} {xs : List V} (h : SqT K H a xs) : TyX K H (.ref a) (.type "tuple") := by
  rcases h with (h | ⟨o, h⟩) | ⟨o, its, n, h, c, _⟩
  · exact .base (.tup h)
  · exact .fTuple h
  · exact .kTuple h c
theorem Dp.tyx {K : PySem.W.Frag} {H : Hp} : ∀ {v : V} {d : PyData}, Dp K H v d → TyX K H v (.type (tyN d))
  | _, _, .non => .base .non
  | _, _, .bl b => .base (.bl b)
  | _, _, .int i => .base (.int i)
  | _, _, .str x => .base (.str x)
  | _, _, .lst h _ => tyx_list h
  | _, _, .tup h _ => tyx_tup h
/-- at most n deep, at most 1000 wide -/
def fit : Nat → PyData → Bool
  | _, .none => true
  | _, .bool _ => true
  | _, .int _ => true
  | _, .str _ => true
  | n + 1, .list ds => decide (ds.length ≤ 1000) && ds.all (fit n)
  | n + 1, .tuple ds => decide (ds.length ≤ 1000) && ds.all (fit n)
  | _, _ => false
/-- what H' has more than H -/
def newer (H H' : Hp) : Hp := fun b => match H b with | none => H' b | some _ => none
theorem newer_at {H H' : Hp} {b : Addr} (h : H b = none) : newer H H' b = H' b := by unfold newer; rw [h]
theorem newer_none {H H' : Hp} {b : Addr} {o : HO} (h : H b = some o) : newer H H' b = none := by unfold newer; rw [h]
theorem newer_sub {H H' : Hp} : Same (newer H H') H' := fun b o e => by
  cases h : H b with
  | none => rw [newer_at h] at e; exact e
  | some u => rw [newer_none h] at e; cases e
/-- fewer were there ahead, more stand now -/
theorem newer_mono {H G H' G' : Hp} (h : ∀ b, H b = none → G b = none) (s : ∀ b, G b = none → ∀ o, H' b = some o → G' b = some o) : Same (newer H H') (newer G G') := fun b o e => by
  cases z : H b with
  | none =>
    rw [newer_at z] at e
    rw [newer_at (h b z)]
    exact s b (h b z) o e
  | some u =>
    rw [newer_none z] at e
    cases e
theorem DpAll.at' {K : PySem.W.Frag} {H : Hp} : ∀ {xs : List V} {ds : List PyData} {i : Nat} {x : V}, DpAll K H xs ds → xs[i]? = some x → ∃ d, ds[i]? = some d ∧ Dp K H x d
  | _, _, 0, _, .cons h _, e => by
    cases e
    exact ⟨_, rfl, h⟩
  | _, _, i + 1, _, .cons _ t, e => DpAll.at' (i := i) t e
theorem DpAll.len {K : PySem.W.Frag} {H : Hp} : ∀ {xs : List V} {ds : List PyData}, DpAll K H xs ds → xs.length = ds.length
  | _, _, .nil => rfl
  | _, _, .cons _ t => congrArg (· + 1) (DpAll.len t)
theorem DpAll.snoc {K : PySem.W.Frag} {H : Hp} {y : V} {d : PyData} (h : Dp K H y d) : ∀ {xs : List V} {ds : List PyData}, DpAll K H xs ds → DpAll K H (xs ++ [y]) (ds ++ [d])
  | _, _, .nil => .cons h .nil
  | _, _, .cons g t => .cons g (DpAll.snoc h t)
/-- while a list of copies grows at D: what is there -/
structure Copying (K : PySem.W.Frag) (H : Hp) (D : Addr) (ds : List PyData) (i : Nat) (G : Hp) : Prop where
  ex : ∃ acc, G D = some (.lst acc) ∧ acc.length = i ∧ DpAll K (newer (upd H D (.lst [])) G) acc (ds.take i)
  same : Same H G
theorem Copying.start {K : PySem.W.Frag} {H : Hp} {D : Addr} {ds : List PyData} (hD : H D = none) : Copying K H D ds 0 (upd H D (.lst [])) :=
  ⟨⟨[], upd_same, rfl, .nil⟩, fun b o e => by rw [upd_ne (ne_of_none e hD)]; exact e⟩
theorem Copying.more {K : PySem.W.Frag} {H G G' : Hp} {D : Addr} {ds : List PyData} {i : Nat} {d : PyData} {y : V} (hD : H D = none) (c : Copying K H D ds i G) (hd : ds[i]? = some d) (s : Same G G') (hy : Dp K (newer G G') y d) :
    ∃ acc, G' D = some (.lst acc) ∧ acc.length = i ∧ Copying K H D ds (i + 1) (upd G' D (.lst (acc ++ [y]))) := by
  obtain ⟨⟨acc, ea, el, ed⟩, sm⟩ := c
  have off : ∀ {b : Addr} {u : HO}, b ≠ D → upd G' D u b = G' b := fun h => upd_ne h
  refine ⟨acc, s _ _ ea, el, ⟨acc ++ [y], upd_same, by rw [List.length_append, el]; rfl, ?_⟩, fun b o e => by rw [off (ne_of_none e hD)]; exact s _ _ (sm _ _ e)⟩
  have et : ds.take (i + 1) = ds.take i ++ [d] := by
    rw [List.take_add_one, hd]
    rfl
  rw [et]
  refine DpAll.snoc (Dp.same (newer_mono (fun b z => ?_) fun b z o e => ?_) d y hy) (DpAll.same (newer_mono (fun b z => z) fun b z o e => ?_) _ _ ed)
  · have n : b ≠ D := fun q => by
      rw [q, ea] at z
      cases z
    rw [upd_ne n]
    cases q : H b with
    | none => rfl
    | some o =>
      rw [sm b o q] at z
      cases z
  · have n : b ≠ D := fun q => by
      rw [q, upd_same] at z
      cases z
    rw [off n]
    exact e
  · have n : b ≠ D := fun q => by
      rw [q, upd_same] at z
      cases z
    rw [off n]
    exact s _ _ e
theorem Copying.all {K : PySem.W.Frag} {H G : Hp} {D : Addr} {ds : List PyData} (hD : H D = none) (c : Copying K H D ds ds.length G) : ∃ acc, G D = some (.lst acc) ∧ DpAll K (newer H G) acc ds := by
  obtain ⟨⟨acc, ea, _, ed⟩, sm⟩ := c
  rw [List.take_length] at ed
  refine ⟨acc, ea, DpAll.same (newer_mono (fun b z => ?_) fun b _ o e => e) _ _ ed⟩
  by_cases n : b = D
  · rw [n]
    exact hD
  · rw [upd_ne n] at z
    exact z
/-- copied(x), x data at most n deep: the same data on new addresses -/
def spCopy (K : PySem.W.Frag) (n : Nat) : Sp := fun vs H Q _ => ∃ (x : V) (d : PyData), vs = [x] ∧ Dp K H x d ∧ fit n d = true ∧ ∀ (y : V) (H' : Hp), Same H H' → Dp K (newer H H') y d → Q y H'
def spPrev (K : PySem.W.Frag) : Nat → Sp
  | 0 => fun _ _ _ _ => False
  | n + 1 => spCopy K n
/-- how the rest of such a def is told of a scalar -/
theorem dp_newer {K : PySem.W.Frag} {H G : Hp} {x : V} {d : PyData} (h : Dp K H x d) (n1 : ∀ ds, d ≠ .list ds) (n2 : ∀ ds, d ≠ .tuple ds) : Dp K G x d := by
  cases h with
  | non => exact .non
  | bl b => exact .bl b
  | int i => exact .int i
  | str z => exact .str z
  | lst => exact absurd rfl (n1 _)
  | tup => exact absurd rfl (n2 _)
end VG

set_option maxRecDepth 100000
/-! Own errors: an __init__ that calls super().__init__('..'), keeps copies of what it got, then the name of its class as its code. -/
namespace VG
open PySem PySem.Spec PyProof.Rows L2
/-- without what is told by a property alone -/
def nox (H : Hp) : Hp := fun b => match H b with
  | some (.ext _) => none
  | o => o
theorem nox_of {H : Hp} {b : Addr} {o : HO} (h : H b = some o) (n : ∀ φ, o ≠ .ext φ) : nox H b = some o := by
  unfold nox
  rw [h]
  cases o <;> first | rfl | exact absurd rfl (n _)
theorem of_nox {H : Hp} {b : Addr} {o : HO} (h : nox H b = some o) : H b = some o ∧ ∀ φ, o ≠ .ext φ := by
  unfold nox at h
  cases e : H b with
  | none =>
    rw [e] at h
    cases h
  | some u =>
    rw [e] at h
    cases u <;> cases h <;> exact ⟨rfl, fun φ z => by cases z⟩
theorem SqL.nox {K : PySem.W.Frag} {H : Hp} {a : Addr} {xs : List V} (h : SqL K H a xs) : SqL K (VG.nox H) a xs := by
  rcases h with (h | ⟨o, h⟩) | h
  · exact .inl (.inl (nox_of h fun _ z => by cases z))
  · exact .inl (.inr ⟨o, nox_of h fun _ z => by cases z⟩)
  · exact .inr h
theorem SqT.nox {K : PySem.W.Frag} {H : Hp} {a : Addr} {xs : List V} (h : SqT K H a xs) : SqT K (VG.nox H) a xs := by
  rcases h with (h | ⟨o, h⟩) | h
  · exact .inl (.inl (nox_of h fun _ z => by cases z))
  · exact .inl (.inr ⟨o, nox_of h fun _ z => by cases z⟩)
  · exact .inr h
mutual
theorem Dp.nox {K : PySem.W.Frag} {H : Hp} : ∀ (d : PyData) (v : V), Dp K H v d → Dp K (VG.nox H) v d
  | .none, _, h => by cases h; exact .non
  | .bool b, _, h => by cases h; exact .bl b
  | .int i, _, h => by cases h; exact .int i
  | .str x, _, h => by cases h; exact .str x
  | .list ds, _, h => by
    cases h with
    | lst hs hd => exact .lst (SqL.nox hs) (DpAll.nox ds _ hd)
  | .tuple ds, _, h => by
    cases h with
    | tup hs hd => exact .tup (SqT.nox hs) (DpAll.nox ds _ hd)
  | .dict _, _, h => by cases h
theorem DpAll.nox {K : PySem.W.Frag} {H : Hp} : ∀ (ds : List PyData) (vs : List V), DpAll K H vs ds → DpAll K (VG.nox H) vs ds
  | [], _, h => by cases h; exact .nil
  | d :: ds, _, h => by
    cases h with
    | cons h t => exact .cons (Dp.nox d _ h) (DpAll.nox ds _ t)
end
/-- fields and the data that they hold -/
def FlOk (K : PySem.W.Frag) (H : Hp) (fs : List (Str × V)) (FL : List (Str × PyData)) : Prop := fs.map (·.1) = FL.map (·.1) ∧ DpAll K H (fs.map (·.2)) (FL.map (·.2))
theorem FlOk.nil {K : PySem.W.Frag} {H : Hp} : FlOk K H [] [] := ⟨rfl, .nil⟩
theorem FlOk.cons {K : PySem.W.Frag} {H : Hp} {fs : List (Str × V)} {FL : List (Str × PyData)} {f : Str} {v : V} {d : PyData} (h : Dp K H v d) (t : FlOk K H fs FL) : FlOk K H ((f, v) :: fs) ((f, d) :: FL) :=
  ⟨congrArg (f :: ·) t.1, .cons h t.2⟩
theorem FlOk.same {K : PySem.W.Frag} {H H' : Hp} {fs : List (Str × V)} {FL : List (Str × PyData)} (e : Same H H') (t : FlOk K H fs FL) : FlOk K H' fs FL := ⟨t.1, DpAll.same e _ _ t.2⟩
theorem FlOk.len {K : PySem.W.Frag} {H : Hp} {fs : List (Str × V)} {FL : List (Str × PyData)} (t : FlOk K H fs FL) : fs.length = FL.length := by
  have z := congrArg List.length t.1
  rw [List.length_map, List.length_map] at z
  exact z
theorem FlOk.get {K : PySem.W.Frag} {H : Hp} {f : Str} {d : PyData} : ∀ {fs : List (Str × V)} {FL : List (Str × PyData)}, FlOk K H fs FL → FL.lookup f = some d → ∃ v, fs.lookup f = some v ∧ Dp K H v d
  | [], [], _, h => by cases h
  | (g, v) :: fs, (g', e) :: FL, ⟨h1, h2⟩, h => by
    have h1 := List.cons.inj h1
    have eg : g = g' := h1.1
    subst eg
    have h2 : DpAll K H (v :: fs.map (·.2)) (e :: FL.map (·.2)) := h2
    cases h2 with
    | cons hv ht =>
      rw [List.lookup_cons] at h ⊢
      cases q : f == g with
      | true =>
        rw [q] at h
        cases h
        exact ⟨v, rfl, hv⟩
      | false =>
        rw [q] at h
        exact FlOk.get ⟨h1.2, ht⟩ h
  | [], _ :: _, ⟨h, _⟩, _ => by cases h
  | _ :: _, [], ⟨h, _⟩, _ => by cases h
/-- an error at a is being made: H behind super().__init__, G now, FL what it holds (the last first) -/
structure Stg (K : PySem.W.Frag) (H : Hp) (a C : Addr) (FL : List (Str × PyData)) (G : Hp) : Prop where
  ex : ∃ fs, FlOk K (nox (newer H G)) fs FL ∧ ((FL = [] ∧ G a = some (exo a C none)) ∨ ∃ dx, H dx = none ∧ dx ≠ a ∧ G a = some (exo a C (some dx)) ∧ G dx = some (exd dx fs))
  but : ∀ b o, b ≠ a → H b = some o → G b = some o
  at_ : (H a).isSome = true
section
variable {K : PySem.W.Frag} {H G G1 : Hp} {a C : Addr} {FL : List (Str × PyData)}
theorem Stg.start (h : H a = some (exo a C none)) : Stg K H a C [] H := ⟨⟨[], .nil, .inl ⟨rfl, h⟩⟩, fun _ _ _ e => e, by rw [h]; rfl⟩
theorem Stg.on (s : Stg K H a C FL G) (sm : Same G G1) : Stg K H a C FL G1 := by
  obtain ⟨⟨fs, hf, hx⟩, but, ha⟩ := s
  refine ⟨⟨fs, hf.same fun b o e => ?_, ?_⟩, fun b o n e => sm _ _ (but b o n e), ha⟩
  · obtain ⟨e1, e2⟩ := of_nox e
    exact nox_of (newer_mono (fun _ z => z) (fun b _ o q => sm b o q) b o e1) e2
  · rcases hx with ⟨e1, e2⟩ | ⟨dx, h1, h2, h3, h4⟩
    · exact .inl ⟨e1, sm _ _ e2⟩
    · exact .inr ⟨dx, h1, h2, sm _ _ h3, sm _ _ h4⟩
theorem exo_ext {φ : HO} {e C : Addr} {d : Option Addr} (h : φ = exo e C d) : ∃ ψ, φ = .ext ψ := ⟨_, h⟩
/-- a field is stored -/
theorem Stg.store {σ : L2.St} {R : L2.St → Hp → Prop} {f : Str} {y : V} {d : PyData} (s : Stg K H a C FL G) (hy : Dp K (nox (newer H G)) y d) (hl : FL.length ≤ 900) (next : ∀ G', Stg K H a C ((f, d) :: FL) G' → R σ G') :
    (G a = some (exo a C none) ∧ ∀ dx, G dx = none → dx ≠ a → R σ (upd (upd G dx (exd dx [(f, y)])) a (exo a C (some dx)))) ∨
      ∃ (dx : Addr) (fs : List (Str × V)), G a = some (exo a C (some dx)) ∧ G dx = some (exd dx fs) ∧ fs.length ≤ 900 ∧ R σ (upd G dx (exd dx ((f, y) :: fs))) := by
  obtain ⟨⟨fs, hf, hx⟩, but, ha⟩ := s
  have nH : ∀ {b : Addr}, G b = none → b ≠ a → H b = none := fun {b} z n => by
    cases q : H b with
    | none => rfl
    | some o =>
      rw [but b o n q] at z
      cases z
  have nA : ∀ {b : Addr} {o : HO}, newer H G b = some o → b ≠ a := fun {b o} e z => by
    obtain ⟨u, hu⟩ := Option.isSome_iff_exists.mp ha
    rw [z, newer_none hu] at e
    cases e
  rcases hx with ⟨rfl, e2⟩ | ⟨dx, h1, h2, h3, h4⟩
  · refine .inl ⟨e2, fun dx hdx ne => next _ ⟨⟨[(f, y)], ?_, .inr ⟨dx, nH hdx ne, ne, upd_same, by rw [upd_ne ne, upd_same]⟩⟩, fun b o n e => ?_, ha⟩⟩
    · refine FlOk.cons (Dp.same (fun b o e => ?_) d y hy) .nil
      obtain ⟨e1, e3⟩ := of_nox e
      refine nox_of (newer_mono (fun _ z => z) (fun b _ o q => ?_) b o (H := H) (G := H) (H' := fun b => if b = a then none else G b) ?_) e3
      · have q : (if b = a then none else G b) = some o := q
        by_cases n : b = a
        · rw [if_pos n] at q
          cases q
        · rw [if_neg n] at q
          rw [upd_ne n, upd_ne (ne_of_none q hdx)]
          exact q
      · have n := nA e1
        have z := newer_sub b o e1
        cases w : H b with
        | none =>
          rw [newer_at w, if_neg n]
          exact z
        | some u =>
          rw [newer_none w] at e1
          cases e1
    · rw [upd_ne n]
      have z := but b o n e
      rw [upd_ne (ne_of_none z hdx)]
      exact z
  · refine .inr ⟨dx, fs, h3, h4, by rw [hf.len]; exact hl, next _ ⟨⟨(f, y) :: fs, ?_, .inr ⟨dx, h1, h2, by rw [upd_ne (Ne.symm h2)]; exact h3, upd_same⟩⟩, fun b o n e => ?_, ha⟩⟩
    · have sm : Same (nox (newer H G)) (nox (newer H (upd G dx (exd dx ((f, y) :: fs))))) := fun b o e => by
        obtain ⟨e1, e3⟩ := of_nox e
        have z := newer_sub b o e1
        have nd : b ≠ dx := fun q => by
          rw [q, h4] at z
          exact e3 _ (Option.some.inj z).symm
        refine nox_of ?_ e3
        cases w : H b with
        | none =>
          rw [newer_at w, upd_ne nd]
          exact z
        | some u =>
          rw [newer_none w] at e1
          cases e1
      exact FlOk.cons (Dp.same sm d y hy) (hf.same sm)
    · have z := but b o n e
      rw [upd_ne (ne_of_none e h1)]
      exact z
end
/-! ### the statements of such an __init__ behind super().__init__('..') -/
/-- self.f = copied(par) for each field and the slot of its parameter, then self.code = self.__class__.__name__ -/
inductive IniSts (ps : List Str) : List (Str × Nat) → List Stmt → Prop where
  | code {x : Str} {p1 p2 p3 p4 p5 p6 : Pos} (h : ps[0]? = some x) : IniSts ps [] [.Assign [.Attribute (.Name x p1) "code" p2] (.Attribute (.Attribute (.Name x p3) "__class__" p4) "__name__" p5) p6]
  | fld {x y f : Str} {i : Nat} {l : List (Str × Nat)} {ss : List Stmt} {p1 p2 p3 p4 p5 p6 : Pos} (h : ps[0]? = some x) (hy : ps[i]? = some y) (t : IniSts ps l ss) :
      IniSts ps ((f, i) :: l) (.Assign [.Attribute (.Name x p1) f p2] (.Call (.Name "copied" p3) [.Name y p4] [] p5) p6 :: ss)
/-- what stands in the parameters' slots -/
def Args (K : PySem.W.Frag) (n : Nat) (σ : L2.St) (H : Hp) : List (Str × Nat) → List PyData → Prop
  | [], [] => True
  | p :: l, d :: ds => (∃ x, σ[p.2]? = some (some x) ∧ Dp K (nox H) x d ∧ fit n d = true) ∧ Args K n σ H l ds
  | _, _ => False
/-- the fields behind them, the last first -/
def after : List (Str × Nat) → List PyData → List (Str × PyData) → List (Str × PyData)
  | p :: l, d :: ds, FL => after l ds ((p.1, d) :: FL)
  | _, _, FL => FL
def tIni (K : PySem.W.Frag) (C : Addr) (nm : Str) (n : Nat) (l : List (Str × Nat)) : TS := fun D σ G => ∃ (H : Hp) (a : Addr) (FL : List (Str × PyData)) (rs : List PyData), σ[0]? = some (some (.ref a)) ∧ H a = some (exo a C none) ∧ Stg K H a C FL G ∧
  Args K n σ H l rs ∧ FL.length + l.length ≤ 100 ∧ ∀ G', Stg K H a C (("code", .str nm) :: after l rs FL) G' → D.nx σ G'
section
variable {X : Cx} {C fC : Addr} {fdC : FuncData} {k n : Nat} {nm : Str}
/-- an own error's class, as its __init__ needs it -/
structure IniC (K : PySem.W.Frag) (C : Addr) (nm : Str) : Prop where
  oex : OexC K C
  cls : ClsTxt K C nm
  own : OwnX K C
theorem pss_ini (hX : ∀ x i p, X.N[i]? = some x → PE X (.Name x p) (tVar i)) (T : IniC X.K C nm) (GC : FnOk X.prog X.w X.K X.mg X.base CX0 k fC fdC ["value"] (spCopy X.K n)) (hr : Room k X.A) (hg : Gl X "copied") (mC : X.mg "copied" = some (.ref fC))
    (hk : PySem.W.keepIn X.K (.ref fC) = true) (bC : L2.Binds X.K fdC ["value"] []) :
    ∀ {l : List (Str × Nat)} {ss : List Stmt}, (∀ p ∈ l, p.1 ∈ exFields) → IniSts X.N l ss → PSs X ss (tIni X.K C nm n l) := by
  intro l ss hf hs
  induction hs with
  | code h =>
    refine ⟨fun pins s σ H D I hh => (pss_one (ps_ost (hX _ 0 _ h) (pe_clsName (hX _ 0 _ h)))).run pins s σ H D I ?_⟩
    obtain ⟨H0, a, FL, rs, h0, hae, st, ha, hl, q⟩ := hh
    have ex : H a = some (exo a C none) ∨ ∃ (dx : Addr) (fs : List (Str × V)), H a = some (exo a C (some dx)) ∧ H dx = some (exd dx fs) := by
      obtain ⟨fs, _, ⟨_, e⟩ | ⟨dx, _, _, e1, e2⟩⟩ := st.ex
      · exact .inl e
      · exact .inr ⟨dx, fs, e1, e2⟩
    refine ⟨_, h0, a, C, nm, rfl, T.cls, ex, _, h0, a, C, rfl, T.oex, T.own.no _ (by decide), ?_⟩
    refine st.store (R := D.nx) (.str nm) (by have := hl; simp at this; omega) fun G' s' => q G' ?_
    match rs, ha with
    | [], _ => exact s'
  | @fld x y f i l ss p1 p2 p3 p4 p5 p6 h hy t ih =>
    have ih := ih fun p hp => hf p (List.mem_cons_of_mem _ hp)
    refine ⟨fun pins s σ H D I hh => (pss_cons (ps_ost (hX _ 0 _ h) (pe_call GC hr hg mC hk bC .nil pass0 (pa_cons (hX _ i _ hy) pa_nil))) ih).run pins s σ H D I ?_⟩
    obtain ⟨H0, a, FL, rs, h0, hae, st, ha, hl, q⟩ := hh
    match rs, ha with
    | d :: rs, ⟨⟨x, hx, hd, hfit⟩, ha⟩ =>
      have noxH : Same (nox H0) H := fun b o e => by
        obtain ⟨e1, e2⟩ := of_nox e
        refine st.but b o (fun z => ?_) e1
        rw [z, hae] at e1
        exact e2 _ (Option.some.inj e1).symm
      refine ⟨x, hx, x, d, rfl, Dp.same noxH d x hd, hfit, fun y G1 sm hy' => ⟨_, h0, a, C, rfl, T.oex, T.own.no _ (hf (f, i) List.mem_cons_self), ?_⟩⟩
      have st1 := st.on sm
      have hy2 : Dp X.K (nox (newer H0 G1)) y d := by
        refine Dp.nox d y (Dp.same (newer_mono (fun b z => ?_) fun _ _ _ e => e) d y hy')
        cases w : H0 b with
        | none => rfl
        | some o =>
          by_cases nb : b = a
          · obtain ⟨fs, _, ⟨_, e⟩ | ⟨dx, _, _, e1, e2⟩⟩ := st.ex
            · rw [nb, e] at z
              cases z
            · rw [nb, e1] at z
              cases z
          · rw [st.but b o nb w] at z
            cases z
      have hl : FL.length + (l.length + 1) ≤ 100 := hl
      refine st1.store (R := (_ : Ends).nx) hy2 (by omega) fun G' s' => ?_
      exact ⟨H0, a, (f, d) :: FL, rs, h0, hae, s', ha, by show FL.length + 1 + l.length ≤ 100; omega, q⟩
end
end VG
namespace VG
open PySem PySem.Spec PyProof.Rows L2
/-- __init__ of an own error: what it leaves -/
def spErr (K : PySem.W.Frag) (C : Addr) (nm : Str) (n m : Nat) (l : List (Str × Nat)) : Sp := fun vs H Q _ => ∃ (a : Addr) (xs : List V) (rs : List PyData), vs = .ref a :: xs ∧ vs.length = m ∧ H a = some (exo a C none) ∧ Args K n (vs.map some) H l rs ∧ l.length ≤ 100 ∧
  ∀ G', Stg K H a C (("code", .str nm) :: after l rs []) G' → Q .non G'
section
variable {P : Program} {w : World} {K : PySem.W.Frag} {mg : Str → Option Value} {base : Heap} {B i newId : String} {bmB : List Value} {C f cc cda fC : Addr} {qual : Str} {params : Arguments} {rest : List Stmt} {sc : Scope} {fd fdC : FuncData} {ps : List Str} {p0 p1 p2 p3 p4 p5 : Pos} {j k n : Nat} {z nm : Str} {self : Arg} {l : List (Str × Nat)}
theorem ok_ini (hev : SupEv p0 p1 p2 p3 p4 j z) (T : IniTxt P K mg B i newId bmB C f cc cda qual params (superInit p0 p1 p2 p3 p4 p5 j z :: rest) sc fd) (S : IniScope ps sc) (hself : (params.posonlyargs ++ params.args).head? = some self) (hp0 : ps[0]? = some self.arg)
    (TC : IniC K C nm) (GC : FnOk P w K mg base CX0 k fC fdC ["value"] (spCopy K n)) (hg : sc.names.lookup ("copied" : Str) = some .globalImplicit) (mC : mg "copied" = some (.ref fC)) (hk : PySem.W.keepIn K (.ref fC) = true) (bC : L2.Binds K fdC ["value"] [])
    (hps : ∀ x ∈ ps, (x == ("__debug__" : Str)) = false ∧ (x == ("__classdict__" : Str)) = false) (hf : ∀ p ∈ l, p.1 ∈ exFields) (hs : IniSts ps l rest) : FnOk P w K mg base CX0 (k + 1) f fd ps (spErr K C nm n ps.length l) := by
  refine ini_ok hev T S hself hp0 (fun vs H Q E h => ?_) fun A outer s H vs Q E hr h => ?_
  · obtain ⟨_, _, _, _, e, _⟩ := h
    exact e
  · obtain ⟨a, xs, rs, rfl, hl, hea, ha, hn, q⟩ := h
    refine ⟨a, xs, rfl, hea, _, pss_ini (X := iniCx P w K mg base ps qual sc f cda cc A outer s H) (C := C) (nm := nm) (n := n) (fun x i p hx => pe_var hx (.inl (S.par x (List.mem_of_getElem? hx))) (hps x (List.mem_of_getElem? hx)).1 (hps x (List.mem_of_getElem? hx)).2) TC GC hr hg mC hk bC hf hs, ?_⟩
    exact ⟨H, a, [], rs, rfl, hea, Stg.start hea, ha, by show 0 + l.length ≤ 100; omega, q⟩
end
end VG

set_option maxRecDepth 100000
/-! An own error is made and raised: what its class and its dict tell behind that. -/
namespace VG
open PySem PySem.Spec PyProof.Rows L2
/-- the dict of an error: its fields, the last first -/
def ErrD (K : PySem.W.Frag) (H : Hp) (dd : Addr) (FL : List (Str × PyData)) : Prop := ∃ fs, H dd = some (.xd fs) ∧ FlOk K H fs FL
theorem ErrD.same {K : PySem.W.Frag} {H H' : Hp} {dd : Addr} {FL : List (Str × PyData)} (e : Same H H') (h : ErrD K H dd FL) : ErrD K H' dd FL := by
  obtain ⟨fs, h1, h2⟩ := h
  exact ⟨fs, e _ _ h1, h2.same e⟩
def slots : Nat → List Str → List (Str × Nat)
  | _, [] => []
  | i, f :: fs => (f, i) :: slots (i + 1) fs
theorem slots_len : ∀ {i : Nat} {l : List Str}, (slots i l).length = l.length
  | _, [] => rfl
  | i, _ :: l => congrArg (· + 1) (slots_len (i := i + 1) (l := l))
theorem args_of {K : PySem.W.Frag} {n : Nat} {H : Hp} : ∀ {vs : List V} {ds : List PyData} {flds : List Str} {pre : List (Option V)}, DpAll K (nox H) vs ds → (∀ d ∈ ds, fit n d = true) → flds.length = vs.length → Args K n (pre ++ vs.map some) H (slots pre.length flds) ds
  | [], [], [], _, _, _, _ => trivial
  | v :: vs, d :: ds, f :: flds, pre, .cons h t, hf, hl => by
    refine ⟨⟨v, ?_, h, hf d List.mem_cons_self⟩, ?_⟩
    · show (pre ++ (some v :: vs.map some))[pre.length]? = _
      rw [List.getElem?_append_right (Nat.le_refl _), Nat.sub_self]
      rfl
    · have q := args_of (pre := pre ++ [some v]) t (fun d hd => hf d (List.mem_cons_of_mem _ hd)) (Nat.succ.inj hl)
      rw [List.length_append, List.append_assoc] at q
      exact q
/-- what is wished of C(vs ..), C an own error with the fields flds -/
theorem mk_err {K : PySem.W.Frag} {C : Addr} {nm : Str} {n m : Nat} {flds : List Str} {H1 : Hp} {vs : List V} {ds : List PyData} {Q : XK} (hm : flds.length + 1 = m) (hl : flds.length = vs.length) (h100 : flds.length ≤ 100) (hv : DpAll K H1 vs ds) (hf : ∀ d ∈ ds, fit n d = true)
    (q : ∀ (dd : Addr) (H' : Hp), Same H1 H' → ErrD K H' dd (("code", .str nm) :: after (slots 1 flds) ds []) → Q (.ref C) (some dd) H') :
    vs.length ≤ 1000 ∧ ∀ a, H1 a = none → spErr K C nm n m (slots 1 flds) (.ref a :: (vs ++ [])) (upd H1 a (exo a C none))
      (fun v H2 => v = .non ∧ ∃ (d : Addr) (fs : List (Str × V)), H2 a = some (exo a C (some d)) ∧ H2 d = some (exd d fs) ∧ H1 d = none ∧ Q (.ref C) (some d) (upd (del H2 a) d (.xd fs))) (fun _ _ _ => False) := by
  refine ⟨by omega, fun a ha => ?_⟩
  rw [List.append_nil]
  have sm1 : Same (nox H1) (nox (upd H1 a (exo a C none))) := fun b o e => by
    obtain ⟨e1, e2⟩ := of_nox e
    exact nox_of (by rw [upd_ne (ne_of_none e1 ha)]; exact e1) e2
  refine ⟨a, vs, ds, rfl, by show vs.length + 1 = m; omega, upd_same, args_of (pre := [some (.ref a)]) (DpAll.same sm1 _ _ (DpAll.nox _ _ hv)) hf hl, by rw [slots_len]; exact h100, fun G' st => ⟨rfl, ?_⟩⟩
  obtain ⟨⟨fs, hF, ⟨z, _⟩ | ⟨dx, h1, h2, h3, h4⟩⟩, but, _⟩ := st
  · cases z
  · have hd1 : H1 dx = none := by
      rw [upd_ne h2] at h1
      exact h1
    refine ⟨dx, fs, h3, h4, hd1, q dx _ (fun b o e => ?_) ⟨fs, upd_same, hF.same fun b o e => ?_⟩⟩
    · have na := ne_of_none e ha
      rw [upd_ne (ne_of_none e hd1), del_ne na]
      exact but b o na (by rw [upd_ne na]; exact e)
    · obtain ⟨e1, e2⟩ := of_nox e
      have z := newer_sub b o e1
      have nd : b ≠ dx := fun y => by
        rw [y, h4] at z
        exact e2 _ (Option.some.inj z).symm
      have na : b ≠ a := fun y => by
        rw [y, newer_none upd_same] at e1
        cases e1
      rw [upd_ne nd, del_ne na]
      exact z
/-- an own error's class C, called by its name: its __init__ keeps its promise -/
structure ErrC (P : Program) (w : World) (K : PySem.W.Frag) (mg : Str → Option Value) (base : Heap) (nm : Str) (flds : List Str) (C : Addr) (k n : Nat) : Prop where
  ini : IniC K C nm
  glob : mg nm = some (.ref C)
  few : flds.length ≤ 100
  run : ∃ (f : Addr) (fd : FuncData) (ps : List Str), PySem.W.findIn K (.ref C) "__init__" = some (some (.ref f)) ∧ PySem.W.typeIn K (.ref f) = some (.type "function") ∧ L2.Binds K fd ps [] ∧ FnOk P w K mg base CX0 k f fd ps (spErr K C nm n (flds.length + 1) (slots 1 flds))
/-- raise C(e ..); its reading is closed by mk_err -/
def tErr (K : PySem.W.Frag) (C : Addr) (nm : Str) (flds : List Str) (n : Nat) (W : WX) (ta : TA) : TS := fun _ σ H => tMkO C (spErr K C nm n (flds.length + 1) (slots 1 flds)) [] ta σ H fun cls d H' => W cls d σ H'
section
variable {X : Cx} {nm : Str} {flds : List Str} {C : Addr} {k n : Nat} {W : WX} {e : Expr} {es : List Expr} {ta : TA} {p pos pos2 : Pos}
theorem ps_err (T : ErrC X.prog X.w X.K X.mg X.base nm flds C k n) (hc : X.calm = true) (tk : Takes X W) (hr : Room (k + 1) X.A) (hg : Gl X nm) (ha : PA X (e :: es) ta) (n1 : (nm == ("__debug__" : Str)) = false := by decide)
    (n2 : starEach (e :: es) X.env = (false, eval e X.env) :: starEach es X.env := by rfl) (n3 : (backTo pos (starEach es X.env)).any (·.1) = false := by rfl) :
    PS X (.Raise (some (.Call (.Name nm p) (e :: es) [] pos)) none pos2) (tErr X.K C nm flds n W ta) := by
  obtain ⟨f, fd, ps, h1, h2, h3, h4⟩ := T.run
  exact ps_raise hc tk (pmk_oex T.ini.oex h1 h2 h4 hr h3 .nil pass0 hg T.glob ha n1 n2 n3)
end
end VG

set_option maxRecDepth 100000
/-! A def whose code object is known (lambdas are made in it); what a lambda's body may let out. -/
namespace VG
open PySem PySem.Spec PyProof.Rows L2 LamX
section
variable {P : Program} {w : World} {K : PySem.W.Frag} {mg : Str → Option Value} {base : Heap}
theorem okGC {x qual : Str} {st : Stmt} {f c : Addr} {fd : FuncData} {N ps : List Str} {k : Nat} {sp : Sp} (F : Fun K x qual st f fd) (S : FnScope N ps (defScope st)) (hc : fd.code = .ref c) (many : ∀ vs H Q E, sp vs H Q E → vs.length = ps.length)
    (body : ∀ (A : Around) (outer : List Env) (s : Shared) (H : Hp) (vs : List V) (Q : VK) (E : XK), A.guards = some [] → Room k (A.deeper (envOfC qual (defScope st) s.heap.objs.size f (.ref c))) → sp vs H Q E →
      ∃ t, PSs (cxOf CX0 P w K mg base N qual (defScope st) f (.ref c) A outer s H E).nox (defBody st) t ∧
        t { nx := fun _ H' => Q .non H', rt := Q } (L2.start N vs) H) : FnG P w K mg base CX0 (k + 1) f fd ps sp := by
  obtain ⟨oc, od, kV, doc, pm, an, cdv, ct, osl, rfl, lk, hcd⟩ := F.ex
  obtain rfl : cdv = .ref c := hc
  refine ⟨many, fun A outer s H args us vs Q E hG hr e0 hb r q => LamX.run_ofS lk hcd S hr e0 hb r (many _ _ _ _ q) fun hr' => ?_⟩
  obtain ⟨t, h1, h2⟩ := body A outer s H vs Q E hG hr' q
  exact ⟨t, h1.nox, h2⟩
end
theorem lam_passes {X : Cx} {A : Around} {outer : List Env} {s : Shared} {H : Hp} {E : XK} {scope : Scope} {f c' : Addr} : Passes (L2.CX X.prog X.w) (lamCx X A outer s H E scope f c') E := passes_call (W := fun cls d _ H => E cls d H) (takes_of rfl rfl rfl rfl) fun _ _ _ _ h => h
/-- a call that lets nothing out, of a def that may -/
theorem passF {X : Cx} {P : Program} {w : World} : Passes (L2.CX P w) X (fun _ _ _ => False) := fun _ _ _ _ _ _ _ ⟨_, _, _, _, _, _, _, _, _, _, _, _, h⟩ => h.elim
/-- sequences alone -/
def seqs (H : Hp) : Hp := fun b => match H b with
  | some (.lst xs) => some (.lst xs)
  | some (.tup xs) => some (.tup xs)
  | some (.frz o (.lst xs)) => some (.frz o (.lst xs))
  | some (.frz o (.tup xs)) => some (.frz o (.tup xs))
  | _ => none
theorem seqs_sub {H : Hp} {b : Addr} {o : HO} (h : seqs H b = some o) : H b = some o ∧ ∀ ps, o ≠ .tbl ps := by
  unfold seqs at h
  split at h <;> first | (rename_i e; cases h; exact ⟨e, fun _ z => by cases z⟩) | cases h
mutual
theorem Dp.seqs {K : PySem.W.Frag} {H : Hp} : ∀ (d : PyData) (v : V), Dp K H v d → Dp K (VG.seqs H) v d
  | .none, _, h => by cases h; exact .non
  | .bool b, _, h => by cases h; exact .bl b
  | .int i, _, h => by cases h; exact .int i
  | .str x, _, h => by cases h; exact .str x
  | .list ds, _, h => by
    cases h with
    | lst hs hd =>
      refine .lst ?_ (DpAll.seqs ds _ hd)
      rcases hs with (e | ⟨o, e⟩) | e
      · exact .inl (.inl (by unfold VG.seqs; rw [e]))
      · exact .inl (.inr ⟨o, by unfold VG.seqs; rw [e]⟩)
      · exact .inr e
  | .tuple ds, _, h => by
    cases h with
    | tup hs hd =>
      refine .tup ?_ (DpAll.seqs ds _ hd)
      rcases hs with (e | ⟨o, e⟩) | e
      · exact .inl (.inl (by unfold VG.seqs; rw [e]))
      · exact .inl (.inr ⟨o, by unfold VG.seqs; rw [e]⟩)
      · exact .inr e
  | .dict _, _, h => by cases h
theorem DpAll.seqs {K : PySem.W.Frag} {H : Hp} : ∀ (ds : List PyData) (vs : List V), DpAll K H vs ds → DpAll K (VG.seqs H) vs ds
  | [], _, h => by cases h; exact .nil
  | d :: ds, _, h => by
    cases h with
    | cons h t => exact .cons (Dp.seqs d _ h) (DpAll.seqs ds _ t)
end
/-- data stand where tables alone have grown -/
theorem Dp.grown {K : PySem.W.Frag} {H H' : Hp} {d : PyData} {v : V} (e : ExtN H H') (h : Dp K H v d) : Dp K H' v d := Dp.same (fun b o z => e b o (seqs_sub z).1 (seqs_sub z).2) d v (Dp.seqs d v h)
end VG

set_option maxRecDepth 100000
/-! A hook that knows cStatics, and tells the __init__ of errors (whose closure holds their class). -/
namespace VG
open PySem PySem.Spec PyProof.Rows L2
open He (ba Fa DefD Tab Defn AlX)
def asI (g : Addr → Option Obj) (n : Nat) : List Addr := He.asD g n ++ [cStatics]
abbrev FnI : Type := Option (Str × Str × Arguments × FuncBody × Scope × Addr × List Str × Addr)
def fnI (K : PySem.W.Frag) (p : Str × Option Str) : FnI := match K.lookup (He.fAd K p) with
  | some ⟨_, _, .func fd, _⟩ => some (fd.name, fd.qualname, fd.params, fd.body, fd.scope, fd.globals, fd.closure.map (·.1), fd.builtins)
  | _ => none
/-- an error's __init__, as it is written -/
structure IniD where
  cls : Str
  st : Stmt
def IniD.at_ (d : IniD) : Str × Option Str := (d.cls, some "__init__")
def IniD.qual (d : IniD) : Str := d.cls ++ ".__init__"
def IniD.val (d : IniD) : FnI := some ("__init__", d.qual, defArgs d.st, .stmts (defBody d.st), defScope d.st, mainGlobals, ["__class__"], builtinsNs)
abbrev AlI : Type := AlX × List FnI
section
variable {n : Nat} {fa : List Fa} {fn : List DefD} {tf : List Defn} {ex : PySem.W.Frag → Bool} {ins : List IniD}
def obsI (n : Nat) (fa : List Fa) (fn : List DefD) (tf : List Defn) (ex : PySem.W.Frag → Bool) (ins : List IniD) (g : Addr → Option Obj) : AlI :=
  ((He.obsT fa fn [] (He.frT g (asI g n)), ex (He.frT g (asI g n)) && He.tabsB g tf (He.frT g (asI g n))), ins.map fun d => fnI (He.frT g (asI g n)) d.at_)
structure SaysI (fa : List Fa) (fn : List DefD) (tf : List Defn) (ex : PySem.W.Frag → Bool) (ins : List IniD) (w : World) (h : Heap) (K : PySem.W.Frag) : Prop where
  x : He.SaysX fa fn [] tf ex w h K
  ini : ∀ d ∈ ins, fnI K d.at_ = d.val
theorem saysI_of {w : World} {h : Heap} (e : obsI n fa fn tf ex ins h.get? = (He.valX fn [] w, ins.map IniD.val)) : SaysI fa fn tf ex ins w h (He.frT h.get? (asI h.get? n)) := by
  generalize hK : He.frT h.get? (asI h.get? n) = K at *
  have e1 : He.obsT fa fn [] K = He.valT fn [] w := by
    have z := congrArg (fun z : AlI => z.1.1) e
    unfold obsI at z
    rw [hK] at z
    exact z
  have e2 : (ex K && He.tabsB h.get? tf K) = true := by
    have z := congrArg (fun z : AlI => z.1.2) e
    unfold obsI at z
    rw [hK] at z
    exact z
  have e3 : (ins.map fun d => fnI K d.at_) = ins.map IniD.val := by
    have z := congrArg (fun z : AlI => z.2) e
    unfold obsI at z
    rw [hK] at z
    exact z
  obtain ⟨h1, h2⟩ := ba e2
  have tabs : ∀ p ∈ tf, PySem.W.codeHdIn K (He.cT K p).1 (He.cT K p).2 = true ∧ ∃ o, h.get? (He.cT K p).2 = some o ∧ He.emptyTab o = true := fun p hp => by
    obtain ⟨h3, h4⟩ := ba (List.all_eq_true.mp h2 p hp)
    match q : h.get? (He.cT K p).2 with
    | none =>
      rw [q] at h4
      cases h4
    | some o =>
      rw [q] at h4
      exact ⟨h3, o, rfl, h4⟩
  refine ⟨⟨e1, h1, fun p hp => (tabs p hp).1, fun p hp => ?_, fun p hp => ?_⟩, fun d hd => ?_⟩
  · obtain ⟨_, o, q, z⟩ := tabs p hp
    rw [← hK] at q ⊢
    exact He.frT_none q z
  · obtain ⟨_, o, q, z⟩ := tabs p hp
    rw [q, He.emptyTab_eq z]
  · exact List.map_inj_left.mp e3 d hd
def hookI (n : Nat) (fa : List Fa) (fn : List DefD) (tf : List Defn) (ex : PySem.W.Frag → Bool) (ins : List IniD) : PySem.W.Hook where
  α := AlI
  obs := fun s => obsI n fa fn tf ex ins s.heap.get?
  val := fun w => (He.valX fn [] w, ins.map IniD.val)
  says := fun w h => ∃ K : PySem.W.Frag, K.In h ∧ SaysI fa fn tf ex ins w h K
  of := fun _ _ e => ⟨_, He.frT_in, saysI_of e⟩
  keeps := fun _ _ _ ⟨K, hK, c⟩ k => ⟨K, PySem.W.Frag.In.keeps hK k, ⟨c.x.t, c.x.more, c.x.hd, c.x.out, fun p hp => k _ _ (c.x.empty p hp)⟩, c.ini⟩
theorem obsI_eq {g : Addr → Option Obj} {s : Shared} (h : ∀ a, g a = s.heap.get? a) : obsI n fa fn tf ex ins g = (hookI n fa fn tf ex ins).obs s := by
  have e : g = s.heap.get? := funext h
  rw [e] <;> rfl
end
end VG

set_option maxRecDepth 100000
/-! What the head is to tell of an own error, as a Bool. -/
namespace VG
open PySem PySem.Spec PyProof.Rows L2
def clsB (K : PySem.W.Frag) (C : Addr) (nm : Str) : Bool := match K.lookup C with
  | some ⟨.type t, _, .cls cd, sl⟩ => decide (t = "type") && (match cd.mro, sl.toList with
    | .ref C' :: bm, [_, _, some (.str z _), _, some (.builtin n), _] => decide (C' = C) && (decide (z = nm) && (decide (n = "ValueError.__new__") && (cd.hasDict && (!cd.hasDel && PySem.HandSPX.refsVE bm))))
    | _, _ => false)
  | _ => false
theorem clsB_ok {K : PySem.W.Frag} {C : Addr} {nm : Str} (h : clsB K C nm = true) : ∃ (name q : Str) (N : Addr) (bs bm : List Value) (sn : List Str) (sub : List Value) (ab : Bool) (col : Option Bool) (dd : Option Addr) (k0 k1 : Option Value) (tk : Tok) (k3 k5 : Option Value),
    K.lookup C = some (excClassObj name q C N bs bm true sn sub ab col dd k0 k1 (some (.str nm tk)) k3 k5 "ValueError.__new__") ∧ PySem.HandSPX.refsVE bm = true := by
  unfold clsB at h
  split at h
  · rename_i t dd cd sl e
    obtain ⟨h1, h2⟩ := Bool.and_eq_true_iff.mp h
    have ht : t = "type" := of_decide_eq_true h1
    split at h2
    · rename_i C' bm a0 a1 z tk a3 n a5 e1 e2
      simp only [Bool.and_eq_true, decide_eq_true_eq, Bool.not_eq_true'] at h2
      obtain ⟨g1, g2, g3, g4, g5, g6⟩ := h2
      subst ht g1 g2 g3
      obtain ⟨c1, c2, c3, c4, c5, c6, c7, c8, c9, c10, c11⟩ := cd
      have e1 : c3 = .ref C' :: bm := e1
      have g4 : c6 = true := g4
      have g5 : c11 = false := g5
      subst e1 g4 g5
      have es : sl = #[a0, a1, some (.str z tk), a3, some (.builtin "ValueError.__new__"), a5] := Array.toList_inj.mp e2
      subst es
      exact ⟨c1, c5, c4, c2, bm, c7, c8, c9, c10, dd, a0, a1, tk, a3, a5, e, g6⟩
    · cases h2
  · cases h
def nameB (K : PySem.W.Frag) (C : Addr) : Bool := match PySem.W.findCls K (.ref C) (.type "type") "__name__" with
  | some (.get g a o t) => decide (g = .builtin "getset_descriptor.__get__") && (decide (a = .builtin "type.__name__") && (decide (o = .ref C) && decide (t = .type "type")))
  | _ => false
theorem nameB_ok {K : PySem.W.Frag} {C : Addr} (h : nameB K C = true) : PySem.W.findCls K (.ref C) (.type "type") "__name__" = some (.get (.builtin "getset_descriptor.__get__") (.builtin "type.__name__") (.ref C) (.type "type")) := by
  unfold nameB at h
  split at h
  · rename_i g a o t e
    simp only [Bool.and_eq_true, decide_eq_true_eq] at h
    obtain ⟨h1, h2, h3, h4⟩ := h
    rw [e, h1, h2, h3, h4]
  · cases h
/-- an own error's class: all but its __init__ -/
def errB (K : PySem.W.Frag) (nm : Str) : Bool := clsB K (He.ga K nm) nm && (nameB K (He.ga K nm) && (ownXB K (He.ga K nm) && (decide (PySem.W.findIn K (.ref (He.ga K nm)) "__setattr__" = some (some (.builtin "object.__setattr__"))) && (decide (PySem.W.subIn K (.ref (He.ga K nm)) (.type "BaseException") = some true) &&
  (decide (PySem.W.typeIn K (.ref (He.ga K nm)) = some (.type "type")) && (PySem.W.keepIn K (.ref (He.ga K nm)) && (decide (PySem.W.findIn K (.ref (He.ga K nm)) "__class__" = some (some (.builtin "object.__class__"))) && (decide (PySem.W.specialIn K (.builtin "object.__class__") "__get__" = some (some (.builtin "getset_descriptor.__get__"))) &&
  (decide (PySem.W.takesIn K (.builtin "object.__class__") = some true) && (decide (PySem.W.mroIn K (He.ga K nm) (.type "object") = some true) && PySem.W.readsIn K (He.ga K nm) (.type "type")))))))))))
theorem errB_ok {K : PySem.W.Frag} {nm : Str} (h : errB K nm = true) : IniC K (He.ga K nm) nm := by
  unfold errB at h
  simp only [Bool.and_eq_true, decide_eq_true_eq] at h
  obtain ⟨h1, h2, h3, h4, h5, h6, h7, h8, h9, h10, h11, h12⟩ := h
  obtain ⟨name, q, N, bs, bm, sn, sub, ab, col, dd, k0, k1, tk, k3, k5, e, g⟩ := clsB_ok h1
  have o := ownX_of h3
  refine ⟨⟨⟨name, q, N, bs, bm, sn, sub, ab, col, dd, k0, k1, _, k3, k5, e, g⟩, h4, h5, h6, h7⟩, ⟨o.xf.ga, o.xf.gg, h5, ?_, h8, h9, h10, h11, h12, nameB_ok h2, h6, ⟨_, _, _, _, tk, e, rfl⟩⟩, o⟩
  unfold PySem.W.clsIn
  rw [e] <;> rfl
/-- its __init__ -/
def iniB (K : PySem.W.Frag) (nm file : Str) : Bool := decide (PySem.W.findIn K (.ref (He.ga K nm)) "__init__" = some (some (.ref (He.ma K (He.ga K nm) "__init__")))) && (decide (PySem.W.typeIn K (.ref (He.ma K (He.ga K nm) "__init__")) = some (.type "function")) &&
  (decide (PySem.W.ks_superIn K (He.ga K nm) (He.ga K nm) "__init__" = some (some (.builtin "ValueError.__init__"))) && (decide (PySem.W.subIn K (.ref (He.ga K nm)) (.type "ValueError") = some true) && (decide (PySem.W.mroIn K (He.ga K nm) (.ref (He.ga K nm)) = some true) &&
  (decide (PySem.W.nsIn K cStatics "thirdparty.any" = some none) && (match K.lookup (He.ma K (He.ga K nm) "__init__") with
    | some ⟨_, _, .func fd, _⟩ => (match fd.code, fd.closure with
      | .ref cda, [(_, cc)] => decide (fd.defaults = .none) && (PySem.W.codeIn K (.ref cda) (nm ++ ".__init__") && ((match K.lookup cda with
          | some ⟨_, _, .fields vs, _⟩ => (match (vs[2]? : Option Value) with
            | some (.str z _) => decide (z = file)
            | _ => false)
          | _ => false) && (match K.lookup cc with
          | some ⟨_, _, .cell (some (.ref C')), _⟩ => decide (C' = He.ga K nm)
          | _ => false)))
      | _, _ => false)
    | _ => false))))))
structure IniOk (K : PySem.W.Frag) (nm file : Str) : Prop where
  find : PySem.W.findIn K (.ref (He.ga K nm)) "__init__" = some (some (.ref (He.ma K (He.ga K nm) "__init__")))
  typ : PySem.W.typeIn K (.ref (He.ma K (He.ga K nm) "__init__")) = some (.type "function")
  up : PySem.W.ks_superIn K (He.ga K nm) (He.ga K nm) "__init__" = some (some (.builtin "ValueError.__init__"))
  isB : PySem.W.subIn K (.ref (He.ga K nm)) (.type "ValueError") = some true
  self : PySem.W.mroIn K (He.ga K nm) (.ref (He.ga K nm)) = some true
  opq : PySem.W.nsIn K cStatics "thirdparty.any" = some none
  fn : ∃ (oc : Value) (od : Option Addr) (fd : FuncData) (osl : Array (Option Value)) (cda cc : Addr) (x : Str), K.lookup (He.ma K (He.ga K nm) "__init__") = some ⟨oc, od, .func fd, osl⟩ ∧ fd.code = .ref cda ∧ fd.closure = [(x, cc)] ∧ fd.defaults = .none ∧
    PySem.W.codeIn K (.ref cda) (nm ++ ".__init__") = true ∧ (∃ ccl cdd vs ccs tf, K.lookup cda = some ⟨ccl, cdd, .fields vs, ccs⟩ ∧ vs[2]? = some (.str file tf)) ∧ ∃ cl cld csl, K.lookup cc = some ⟨cl, cld, .cell (some (.ref (He.ga K nm))), csl⟩
theorem iniB_ok {K : PySem.W.Frag} {nm file : Str} (h : iniB K nm file = true) : IniOk K nm file := by
  unfold iniB at h
  simp only [Bool.and_eq_true, decide_eq_true_eq] at h
  obtain ⟨h1, h2, h3, h4, h5, h6, h7⟩ := h
  refine ⟨h1, h2, h3, h4, h5, h6, ?_⟩
  split at h7
  · rename_i oc od fd osl e
    split at h7
    · rename_i cda x cc e1 e2
      simp only [Bool.and_eq_true, decide_eq_true_eq] at h7
      obtain ⟨g1, g2, g3, g4⟩ := h7
      refine ⟨oc, od, fd, osl, cda, cc, x, e, e1, e2, g1, g2, ?_, ?_⟩
      · split at g3
        · rename_i ccl cdd vs ccs ec
          split at g3
          · rename_i z tf ez
            rw [of_decide_eq_true g3] at ez
            exact ⟨ccl, cdd, vs, ccs, tf, ec, ez⟩
          · cases g3
        · cases g3
      · split at g4
        · rename_i cl cld C' csl ec
          rw [of_decide_eq_true g4] at ec
          exact ⟨cl, cld, csl, ec⟩
        · cases g4
    · cases h7
  · cases h7
end VG

set_option maxRecDepth 100000
/-! From the head's facts of an own error to its promise. -/
namespace VG
open PySem PySem.Spec PyProof.Rows L2
section
variable {P : Program} {w : World} {K : PySem.W.Frag} {mg : Str → Option Value} {base : Heap}
theorem errC_of {nm : Str} {flds ps : List Str} {st : Stmt} {rest : List Stmt} {p0 p1 p2 p3 p4 p5 : Pos} {j k n : Nat} {z : Str} {self : Arg} {fC : Addr} {fdC : FuncData} (ini : fnI K (IniD.at_ ⟨nm, st⟩) = IniD.val ⟨nm, st⟩) (I : IniOk K nm P.main.file) (E : IniC K (He.ga K nm) nm) (glob : mg nm = some (.ref (He.ga K nm)))
    (hev : SupEv p0 p1 p2 p3 p4 j z) (hb : defBody st = superInit p0 p1 p2 p3 p4 p5 j z :: rest) (S : IniScope ps (defScope st)) (hself : ((defArgs st).posonlyargs ++ (defArgs st).args).head? = some self) (hp0 : ps[0]? = some self.arg)
    (GC : FnOk P w K mg base CX0 k fC fdC ["value"] (spCopy K n)) (hg : (defScope st).names.lookup ("copied" : Str) = some .globalImplicit) (mC : mg "copied" = some (.ref fC)) (hk : PySem.W.keepIn K (.ref fC) = true) (bC : L2.Binds K fdC ["value"] [])
    (hps : ∀ x ∈ ps, (x == ("__debug__" : Str)) = false ∧ (x == ("__classdict__" : Str)) = false) (hf : ∀ f ∈ flds, f ∈ exFields) (few : flds.length ≤ 100) (hl : ps.length = flds.length + 1) (hs : IniSts ps (slots 1 flds) rest) (sup : mg "super" = none) (top : (P.main.scope.names.lookup ("super" : Str)).isSome = false)
    (binds : ∀ (q : Str) (kV doc pm cdv ct : Value) (an : Option Addr) (cc : Addr) (us : List Value), us.length = ps.length → bindArgs (PySem.W.ksFn "__init__" q (defArgs st) (defBody st) (defScope st) .none kV doc pm an cdv ct cc) ⟨us, []⟩ = pure (ps.zip us)) :
    ErrC P w K mg base nm flds (He.ga K nm) (k + 1) n := by
  obtain ⟨oc, od, fd, osl, cda, cc, x, e, e1, e2, e3, g2, g3, g4⟩ := I.fn
  have e0 : K.lookup (He.fAd K (IniD.at_ ⟨nm, st⟩)) = some ⟨oc, od, .func fd, osl⟩ := e
  unfold fnI at ini
  rw [e0] at ini
  obtain ⟨f1, f2, f3, f4, f5, f6, f7, f8, f9, f10, f11, f12, f13, f14, f15⟩ := fd
  have ini : (some (f1, f2, f3, f4, f5, f6, f7.map (·.1), f15) : FnI) = (some (("__init__" : Str), IniD.qual ⟨nm, st⟩, defArgs st, FuncBody.stmts (defBody st), defScope st, mainGlobals, [("__class__" : Str)], builtinsNs) : FnI) := ini
  simp only [Option.some.injEq, Prod.mk.injEq] at ini
  obtain ⟨rfl, rfl, rfl, rfl, rfl, rfl, ec, rfl⟩ := ini
  have e1 : f13 = .ref cda := e1
  have e2 : f7 = [(x, cc)] := e2
  have e3 : f8 = .none := e3
  subst e1 e2 e3
  have ex : x = "__class__" := by
    have z := List.cons.inj ec
    exact z.1
  subst ex
  obtain ⟨name, q, N, bs, bm, sn, sub, ab, col, dd, k0, k1, k2, k3, k5, lC, hbm⟩ := E.oex.cls
  have T : IniTxt P K mg "ValueError" "ValueError.__init__" "ValueError.__new__" PySem.HandSPX.veTail (He.ga K nm) (He.ma K (He.ga K nm) "__init__") cc cda (IniD.qual ⟨nm, st⟩) (defArgs st) (superInit p0 p1 p2 p3 p4 p5 j z :: rest) (defScope st)
      (PySem.W.ksFn "__init__" (IniD.qual ⟨nm, st⟩) (defArgs st) (defBody st) (defScope st) .none f9 f10 f11 f12 (.ref cda) f14 cc) := by
    refine ⟨PySem.W.kxs_ValueError, F.excBase_ValueError, ⟨oc, od, .none, f9, f10, f11, f12, f14, osl, by rw [hb], e⟩, g2, g3, g4, ⟨name, q, N, bs, bm, true, sn, sub, ab, col, dd, k0, k1, k2, k3, k5, lC⟩, I.up, I.isB, I.self, I.opq, sup, top⟩
  have ok := ok_ini (n := n) (nm := nm) (l := slots 1 flds) hev T S hself hp0 E GC hg mC hk bC hps (fun p hp => ?_) hs
  · rw [hl] at ok
    exact ⟨E, glob, few, _, _, ps, I.find, I.typ, .all (fun us hus => binds _ _ _ _ _ _ _ _ us hus), ok⟩
  · have key : ∀ (l : List Str) (i : Nat), (∀ f ∈ l, f ∈ exFields) → ∀ p ∈ slots i l, p.1 ∈ exFields := by
      intro l
      induction l with
      | nil => intro i _ p hp; cases hp
      | cons f l ih =>
        intro i h p hp
        rcases List.mem_cons.mp hp with e | hp
        · rw [e]
          exact h f List.mem_cons_self
        · exact ih (i + 1) (fun g hg => h g (List.mem_cons_of_mem _ hg)) p hp
    exact key flds 1 hf p hp
end
end VG

set_option maxRecDepth 100000
/-! Plain calls of defs with a star parameter. -/
namespace VG
open PySem PySem.Spec PyProof.Rows L2
section
variable {X : Cx} {CX : CXT} {k : Nat} {f : Addr} {sp : Sp} {E : XK} {x : Str} {p pos : Pos} {e : Expr} {es : List Expr} {t : TA}
theorem pe_callR (F : FnR X.prog X.w X.K X.mg X.base CX k f sp) (hr : Room k X.A) (hk : PySem.W.keepIn X.K (.ref f) = true) (hg : Gl X x) (hm : X.mg x = some (.ref f)) (hx : Passes CX X E) (ha : PA X (e :: es) t) (n1 : (x == ("__debug__" : Str)) = false := by decide)
    (n2 : starEach (e :: es) X.env = (false, eval e X.env) :: starEach es X.env := by rfl) (n3 : (backTo pos (starEach es X.env)).any (·.1) = false := by rfl) : PE X (.Call (.Name x p) (e :: es) [] pos) (fun σ H Q => t σ H fun vs H1 => sp vs H1 Q E) :=
  ⟨fun pins s σ H Q I q0 => wpAny_Call_Name_kw (ld_glob I hg hm (PySem.W.callWith_K (h₀ := X.base) I.ok.mod.kin hk (thn (ha.run pos pins s σ H _ I q0) fun us s1 ⟨vs, H1, I1, r, q⟩ => ⟨I1.kIn, wpAny_call (codeAny_mono (run_fnR F hr hx I1 r q) fun res s' z => z)⟩) n2 n3) n1)⟩
theorem pe_callR0 (F : FnR X.prog X.w X.K X.mg X.base CX k f sp) (hr : Room k X.A) (hk : PySem.W.keepIn X.K (.ref f) = true) (hg : Gl X x) (hm : X.mg x = some (.ref f)) (hx : Passes CX X E) (n1 : (x == ("__debug__" : Str)) = false := by decide) :
    PE X (.Call (.Name x p) [] [] pos) (fun σ H Q => sp [] H Q E) :=
  ⟨fun pins s σ H Q I q0 => wpAny_Call_Name_kw (ld_glob I hg hm (PySem.W.callWith_K0 I.kIn hk (wpAny_call (codeAny_mono (run_fnR (us := []) F hr hx I .nil q0) fun res s' z => z))) n1)⟩
end
end VG

set_option maxRecDepth 100000
/-! Instances of own classes: ==, != by an own __eq__, repr, len, truth by own methods. -/
namespace VG
open PySem PySem.Spec PyProof.Rows L2
theorem FnOk.toR {P : Program} {w : World} {K : PySem.W.Frag} {mg : Str → Option Value} {base : Heap} {CX : CXT} {k : Nat} {f : Addr} {fd : FuncData} {ps : List Str} {sp : Sp} (F : L2.FnOk P w K mg base CX k f fd ps sp) (hb : L2.Binds K fd ps []) : FnR P w K mg base CX k f sp := by
  intro A outer s H us vs Q E hr e0 r h
  have hl := F.len _ _ _ _ h
  have hk : K.In s.heap := e0.mod.kin.keeps fun b o e => (e0.bs b o e).1
  refine F.run A outer s H ⟨us, []⟩ us vs Q E hr e0 ?_ r h
  have z := hb s us hk (by rw [List.append_nil, ← r.length, hl])
  rw [List.append_nil] at z
  exact z
/-- data stand where an object that is no sequence changes -/
theorem Dp.offI {K : PySem.W.Frag} {H : Hp} {p C dx : Addr} {fs : List (Str × V)} {o : HO} {d : PyData} {v : V} (hp : H p = some (.ins C dx fs)) (h : Dp K H v d) : Dp K (upd H p o) v d :=
  Dp.same (fun b u z => by
    have n : b ≠ p := fun e => by
      rw [e] at z
      have y := (seqs_sub z).1
      unfold VG.seqs at z
      rw [hp] at z
      cases z
    rw [upd_ne n]
    exact (seqs_sub z).1) d v (Dp.seqs d v h)
section
variable {X : Cx} {CX : CXT} {pins : List (Addr × Obj)} {σ : L2.St} {H : Hp} {s : Shared} {a C dx g : Addr} {fs : List (Str × V)} {n : Nat} {sp : Sp} {E : XK}
theorem ins_inst (I : Inv X pins σ H s) (e : H a = some (.ins C dx fs)) : ∃ od, PySem.W.InstAt s.heap a (PySem.W.instObj C dx) C (some od) := by
  obtain ⟨mA, J, _⟩ := ins_get I.hok e
  obtain ⟨od, J, _⟩ := J.look
  exact ⟨od, J⟩
/-- x == y, x an instance of C, whose __eq__ stands at g; y any value -/
def rEqO (K : PySem.W.Frag) (C : Addr) (sp : Sp) (E : XK) : R2 := fun x y H Q => ∃ a dx fs t, x = .ref a ∧ H a = some (.ins C dx fs) ∧ TyX K H y t ∧ PySem.W.notFirst K C t = true ∧ sp [x, y] H Q E
theorem op_eqO (hs : PySem.W.findIn X.K (.ref C) "__eq__" = some (some (.ref g))) (hf : PySem.W.isFn X.K (.ref g) = true) (F : FnR X.prog X.w X.K X.mg X.base CX n g sp) (hr : Room n X.A) (hx : Passes CX X E) : OpR X (compareOp .Eq) (rEqO X.K C sp E) := by
  intro pins s σ H x y v u Q I rx ry h
  obtain ⟨a, dx, fs, t, rfl, ha, ty, hn, q⟩ := h
  cases (show v = Value.ref a from rx)
  obtain ⟨od, J⟩ := ins_inst I ha
  obtain ⟨P, kx, kp, _⟩ := kit_of I ry ty
  obtain ⟨m, hF⟩ := I.fr
  show wpAny _ _ (richCompare .Eq (.ref a) u) _ _ _
  refine PySem.W.cmp_K (op := .Eq) hr.units0 hF I.ok.mod.kin J (kx.ty _ _ I.kIn kp) hn hs hf ?_
  refine wpAny_mono (wpAny_call (run_fnR (us := [.ref a, u]) (vs := [.ref a, y]) F hr hx I (.cons rfl (.cons ry .nil)) q)) (fun w s' z => ?_) fun _ _ x => x
  obtain ⟨z', H', I', rz, qz⟩ := z
  exact SlX.cmpback rz ⟨z', H', I', rz, qz⟩
/-- repr(x), x an instance of C, whose __repr__ stands at g -/
def rReprO (C : Addr) (sp : Sp) (E : XK) : List V → Hp → VK → Prop := fun xs H Q => ∃ a dx fs, xs = [.ref a] ∧ H a = some (.ins C dx fs) ∧ sp xs H (fun v H' => (∃ z, v = .str z) ∧ Q v H') E
theorem call_reprO (hs : PySem.W.findIn X.K (.ref C) "__repr__" = some (some (.ref g))) (hf : PySem.W.isFn X.K (.ref g) = true) (F : FnR X.prog X.w X.K X.mg X.base CX n g sp) (hr : Room (n + 1) X.A) (hx : Passes CX X E) : CallR X (.builtin "repr") (rReprO C sp E) := by
  intro pins s σ H xs us Q I r h
  obtain ⟨a, dx, fs, rfl, ha, q⟩ := h
  obtain ⟨u, rfl, ru⟩ := vals1 r
  cases (show u = Value.ref a from ru)
  obtain ⟨od, J⟩ := ins_inst I ha
  obtain ⟨m, hF⟩ := I.fr
  have hr1 : Room n X.A.in1 := Room.in1 hr
  refine PySem.W.repr_K hr1.units0 hF I.ok.mod.kin J hs hf (wpAny_mono (wpAny_call (SlX.run_at (us := [.ref a]) (ws := [.ref a]) F hr1 I.env0.in1 hx I (.cons rfl .nil) q)) (fun v s' z => ?_) fun _ _ x => x)
  obtain ⟨z', H', I', rz, ⟨y, rfl⟩, qz⟩ := z
  obtain ⟨t, e⟩ := (show ∃ t, v = Value.str y t from rz)
  cases e
  exact ⟨.str y, H', I', ⟨t, rfl⟩, qz⟩
/-- what != by an own __eq__ asks of the class -/
structure NeK (K : PySem.W.Frag) (C g : Addr) : Prop where
  ex : ∃ (of : Obj) (nm q : Str) (N : Addr) (bs : List Value) (hdct : Bool) (sn : List Str) (sub : List Value) (ab : Bool) (col : Option Bool) (dd : Option Addr) (k0 k1 k2 k3 k5 : Option Value) (newId : String) (oc : Value) (od : Option Addr) (es : Array DictEntry) (ep : Nat) (sl : Array (Option Value)),
    K.lookup C = some (excClassObj nm q C N bs [.type "object"] hdct sn sub ab col dd k0 k1 k2 k3 k5 newId) ∧ K.lookup N = some ⟨oc, od, .dict es ep, sl⟩ ∧ StrKeys es ∧ nsFind es "__eq__" = some (.ref g) ∧ nsFind es "__ne__" = none ∧ K.lookup g = some of ∧ of.cls = .type "function"
theorem NeK.own {K : PySem.W.Frag} {C g a dx : Addr} {h : Heap} (N : NeK K C g) (X : K.In h) (e : h.get? a = some (PySem.W.instObj C dx)) : h.OwnEqNoNe a C g "object" [.type "object"] := by
  obtain ⟨of, nm, q, Na, bs, hdct, sn, sub, ab, col, dd, k0, k1, k2, k3, k5, newId, oc, od, es, ep, sl, h1, h2, h3, h4, h5, h6, h7⟩ := N.ex
  exact ⟨_, of, nm, q, Na, bs, hdct, sn, sub, ab, col, dd, k0, k1, k2, k3, k5, newId, nsFind es, _, e, rfl, X _ _ h1, ⟨_, es, ep, X _ _ h2, rfl, h3, fun _ => rfl⟩, h4, X _ _ h6, h7, PySem.F.cmp_object.mro, PySem.F.cmp_object.eq.lookup, h5⟩
/-- x != y, both instances of C -/
def rNeO (C : Addr) (sp : Sp) (E : XK) : R2 := fun x y H Q => ∃ a dx fs b dy gs, x = .ref a ∧ y = .ref b ∧ H a = some (.ins C dx fs) ∧ H b = some (.ins C dy gs) ∧ sp [x, y] H (fun v H' => ∃ c, v = .bl c ∧ Q (.bl (!c)) H') E
theorem op_neO (N : NeK X.K C g) (F : FnR X.prog X.w X.K X.mg X.base CX n g sp) (hr : Room (n + 1) X.A) (hx : Passes CX X E) : OpR X (compareOp .NotEq) (rNeO C sp E) := by
  intro pins s σ H x y v u Q I rx ry h
  obtain ⟨a, dx, fs, b, dy, gs, rfl, rfl, ha, hb, q⟩ := h
  cases (show v = Value.ref a from rx)
  cases (show u = Value.ref b from ry)
  obtain ⟨mA, J, _⟩ := ins_get I.hok ha
  obtain ⟨mB, J', _⟩ := ins_get I.hok hb
  have hr1 : Room n X.A.in1 := Room.in1 hr
  have hu : X.A.units + 1 < cLine := hu_of hr
  have O := N.own I.kIn J.obj
  obtain ⟨hp, gg, d, tk, os⟩ := s
  refine compareOp_ne_ownEq PySem.F.cmp_object O J'.obj rfl hu (wpAny_mono (wpAny_call (SlX.run_at (us := [.ref a, .ref b]) (ws := [.ref a, .ref b]) F hr1 I.env0.in1 hx I (.cons rfl (.cons rfl .nil)) q)) (fun v s' z => ?_) fun _ _ x => x)
  obtain ⟨z', H', I', rz, ⟨c, rfl, qz⟩⟩ := z
  cases (show v = Value.bool c from rz)
  exact ⟨c, rfl, .bl (!c), H', I', rfl, qz⟩
end
end VG

set_option maxRecDepth 100000
/-! What the head is to tell of an own class with an __eq__, as a Bool. -/
namespace VG
open PySem PySem.Spec PyProof.Rows L2
def strKeysB (es : Array DictEntry) : Bool := es.toList.all fun e => match e.key with
  | .str _ _ => true
  | _ => false
theorem strKeysB_ok {es : Array DictEntry} (h : strKeysB es = true) : StrKeys es := fun e he => by
  have z := List.all_eq_true.mp h e (Array.mem_toList_iff.mpr he)
  split at z
  · rename_i n t q
    exact ⟨n, t, q⟩
  · cases z
def neB (K : PySem.W.Frag) (C g : Addr) : Bool := (match K.lookup C with
  | some ⟨.type t, _, .cls cd, sl⟩ => decide (t = "type") && (match cd.mro, sl.toList with
    | [.ref C', .type o], [_, _, _, _, some (.builtin _), _] => decide (C' = C) && (decide (o = "object") && (!cd.hasDel && (match K.lookup cd.ns with
      | some ⟨_, _, .dict es _, _⟩ => strKeysB es && (decide (nsFind es "__eq__" = some (.ref g)) && decide (nsFind es "__ne__" = none))
      | _ => false)))
    | _, _ => false)
  | _ => false) && (match K.lookup g with
  | some ⟨.type t, _, _, _⟩ => decide (t = "function")
  | _ => false)
theorem neB_ok {K : PySem.W.Frag} {C g : Addr} (h : neB K C g = true) : NeK K C g := by
  unfold neB at h
  obtain ⟨h, hg⟩ := Bool.and_eq_true_iff.mp h
  split at hg
  · rename_i tg og dg sg eg
    have htg : tg = "function" := of_decide_eq_true hg
    subst htg
    split at h
    · rename_i t dd cd sl e
      obtain ⟨h1, h2⟩ := Bool.and_eq_true_iff.mp h
      have ht : t = "type" := of_decide_eq_true h1
      split at h2
      · rename_i C' o a0 a1 a2 a3 n a5 e1 e2
        simp only [Bool.and_eq_true, decide_eq_true_eq, Bool.not_eq_true'] at h2
        obtain ⟨g1, g2, g3, g4⟩ := h2
        split at g4
        · rename_i oc od es ep sl2 e3
          simp only [Bool.and_eq_true, decide_eq_true_eq] at g4
          obtain ⟨q1, q2, q3⟩ := g4
          subst ht g1 g2
          obtain ⟨c1, c2, c3, c4, c5, c6, c7, c8, c9, c10, c11⟩ := cd
          have e1 : c3 = [.ref C', .type "object"] := e1
          have g3 : c11 = false := g3
          subst e1 g3
          have es' : sl = #[a0, a1, a2, a3, some (.builtin n), a5] := Array.toList_inj.mp e2
          subst es'
          exact ⟨_, c1, c5, c4, c2, c6, c7, c8, c9, c10, dd, a0, a1, a2, a3, a5, n, oc, od, es, ep, sl2, e, e3, strKeysB_ok q1, q2, q3, eg, rfl⟩
        · cases g4
      · cases h2
    · cases h
  · cases hg
/-- isinstance of its instances -/
def insB (K : PySem.W.Frag) (C : Addr) : Bool := decide (PySem.W.findIn K (.ref C) "__class__" = some (some (.builtin "object.__class__"))) && (decide (PySem.W.specialIn K (.builtin "object.__class__") "__get__" = some (some (.builtin "getset_descriptor.__get__"))) &&
  (decide (PySem.W.takesIn K (.builtin "object.__class__") = some true) && (decide (PySem.W.mroIn K C (.type "object") = some true) && decide (PySem.W.kitOne K (.ref C) (.ref C) = some true))))
theorem insB_ok {K : PySem.W.Frag} {C : Addr} (h : insB K C = true) : PySem.W.findIn K (.ref C) "__class__" = some (some (.builtin "object.__class__")) ∧ PySem.W.specialIn K (.builtin "object.__class__") "__get__" = some (some (.builtin "getset_descriptor.__get__")) ∧
    PySem.W.takesIn K (.builtin "object.__class__") = some true ∧ PySem.W.mroIn K C (.type "object") = some true ∧ PySem.W.kitOne K (.ref C) (.ref C) = some true := by
  unfold insB at h
  simp only [Bool.and_eq_true, decide_eq_true_eq] at h
  exact h
end VG

set_option maxRecDepth 100000
namespace Lw
open PySem L2 VG
def topS (i : Nat) : Stmt := PySem.Challenge.pw_missingmiles_k47_means_told.main.body.getD i (.Pass ⟨0, 0, 0, 0⟩)
abbrev s__wall : Stmt := topS 1
abbrev s_copied : Stmt := topS 3
abbrev s_listed : Stmt := topS 4
abbrev s_length_of : Stmt := topS 5
abbrev s__is_whole : Stmt := topS 7
abbrev s_is_ratio : Stmt := topS 8
abbrev s_Mean : Stmt := topS 10
abbrev sSource : Stmt := topS 12
abbrev sDraw : Stmt := topS 13
abbrev sOf : Stmt := topS 14
abbrev sSame : Stmt := topS 15
abbrev s__law_low : Stmt := topS 16
abbrev s__law_length : Stmt := topS 17
abbrev sLaw : Stmt := topS 18
/-! ### the source of draws -/
def srcL (q : Addr) (i c seed n : Int) : List V := [.ref q, .int i, .int c, .int seed, .int n]
structure Src (H : Hp) (p q : Addr) (cells : List Int) : Prop where
  ex : ∃ i c seed n : Int, H p = some (.lst (srcL q i c seed n)) ∧ 0 ≤ i ∧ 0 ≤ c
  cs : H q = some (.lst (cells.map V.int))
  few : cells.length ≤ 63
  ne : p ≠ q
/-- all but p is as it was -/
def But (p : Addr) (H H' : Hp) : Prop := ∀ b, b ≠ p → H' b = H b
theorem But.refl (p : Addr) (H : Hp) : But p H H := fun _ _ => rfl
theorem But.trans {p : Addr} {H H1 H2 : Hp} (a : But p H H1) (b : But p H1 H2) : But p H H2 := fun c n => (b c n).trans (a c n)
theorem But.upd {p : Addr} {H : Hp} {o : HO} : But p H (upd H p o) := fun _ n => upd_ne n
def spSource (K : PySem.W.Frag) : Sp := fun vs H Q _ => ∃ (a : Addr) (ns : List Int), vs = [.ref a] ∧ SqL K H a (ns.map V.int) ∧ ns.length ≤ 63 ∧
  ∀ (p q : Addr) (H' : Hp), H p = none → H q = none → Same H H' → Src H' p q ns → Q (.ref p) H'
def spDraw : Sp := fun vs H Q _ => ∃ (p q : Addr) (cells : List Int) (m : Int), vs = [.ref p, .int m] ∧ Src H p q cells ∧ 0 < m ∧ m < 2 ^ 100 ∧
  ∀ (r : Int) (H' : Hp), 0 ≤ r → r < m → Src H' p q cells → But p H H' → Q (.int r) H'
/-- what the law's helpers ask of the names of the top -/
structure Nm (mg : Str → Option Value) : Prop where
  int : mg "int" = none
  len : mg "len" = none
  list : mg "list" = none
  repr : mg "repr" = none
section
variable {P : Program} {w : World} {K : PySem.W.Frag} {mg : Str → Option Value} {base : Heap}
theorem scSource : FnScope ["_law_script", "_law_seed", "_law_cell"] ["_law_script"] (defScope sSource) := ⟨rfl, rfl, rfl, by decide +kernel, rfl, by decide +kernel, by decide +kernel⟩
theorem scDraw : FnScope ["_law_src", "_law_many", "_law_cell", "_law_digit", "_law_root", "_law_grown"] ["_law_src", "_law_many"] (defScope sDraw) := ⟨rfl, rfl, rfl, by decide +kernel, rfl, by decide +kernel, by decide +kernel⟩
theorem ok_draw {f : Addr} {fd : FuncData} (F : Fun K "_law_draw" "_law_draw" sDraw f fd) (T : Nm mg) : FnOk P w K mg base CX0 1 f fd ["_law_src", "_law_many"] spDraw := by
  refine F.ok scDraw (fun vs H Q E h => ?_) (fun cdv A outer s H vs Q E hr h => ?_)
  · obtain ⟨p, q, cells, m, rfl, _⟩ := h
    rfl
  · obtain ⟨p, q, cells, m, rfl, ⟨⟨i, c, seed, n, hp, hi, hc⟩, hq, hfew, hne⟩, hm0, hm1, k⟩ := h
    have nd := scDraw.nd
    refine ⟨_, C8.pss_cut (ps_if (PW.pt (pw_and (pt_cmpR op_lt (pe_ix ix_list (pv 0) pe_int fun _ _ => rfl) (pv 1) (nomark _))
          (pw_and1 (pt_cmpR op_lt (pe_ix ix_list (pv 0) pe_int fun _ _ => rfl) (pe_callB call_len_seq (by rfl) T.len PySem.boot_len (pa_cons (pe_ix ix_list (pv 0) pe_int fun _ _ => rfl) pa_nil)) (nomark _)))))
        (pss_cons (ps_set (i := 2) nd rfl (Or.inl rfl) (pe_ix ix_list (pe_ix ix_list (pv 0) pe_int fun _ _ => rfl) (pe_ix ix_list (pv 0) pe_int fun _ _ => rfl) fun _ _ => rfl))
        (pss_cons (ps_asg (pe_op op_add (pe_ix ix_list (pv 0) pe_int fun _ _ => rfl) pe_int) (pg_sub (pv 0) pe_int set_list))
        (pss_cons (ps_asg (pe_op op_mod (pe_callTy call_int1 (by rfl) T.int (by decide +kernel) (pa_cons (pe_op op_add (pe_op op_add (pe_op op_mul (pe_ix ix_list (pv 0) pe_int fun _ _ => rfl) pe_int)
            (pe_op op_mod (pe_callTy call_int1 (by rfl) T.int (by decide +kernel) (pa_cons (pv 2) pa_nil)) pe_int)) pe_int) pa_nil)) pe_int) (pg_sub (pv 0) pe_int set_list))
        (pss_one (ps_asg (pe_ifExp (pt_cmpR op_ge (pv 2) (pe_op op_pow pe_int pe_int) (nomark _)) (pv 2) pe_int) (pg_sub (pv 0) pe_int set_list)))))) pss_nil)
      (pss_cons (ps_if (pt_cmpR op_ge (pe_ix ix_list (pv 0) pe_int fun _ _ => rfl) (pv 1) (nomark _))
        (pss_cons (ps_set (i := 3) nd rfl (Or.inl rfl) (pe_op op_mod (pe_callTy call_int1 (by rfl) T.int (by decide +kernel) (pa_cons (pe_ix ix_list (pv 0) pe_int fun _ _ => rfl) pa_nil)) (pv 1)))
        (pss_cons (ps_asg (pe_op op_fdivW (pe_ix ix_list (pv 0) pe_int fun _ _ => rfl) (pv 1)) (pg_sub (pv 0) pe_int set_list))
        (pss_one (ps_ret (pv 3))))) pss_nil)
      (pss_cons (ps_asg (pe_op op_add (pe_ix ix_list (pv 0) pe_int fun _ _ => rfl) pe_int) (pg_sub (pv 0) pe_int set_list))
      (C8.pss_cut (ps_set (i := 4) nd rfl (Or.inl rfl) (pe_op op_mod (pe_callTy call_int1 (by rfl) T.int (by decide +kernel) (pa_cons (pe_op op_add (pe_ix ix_list (pv 0) pe_int fun _ _ => rfl)
          (pe_op op_mul (pe_ix ix_list (pv 0) pe_int fun _ _ => rfl) pe_int)) pa_nil)) pe_int))
      (pss_cons (ps_set (i := 5) nd rfl (Or.inl rfl) (pe_op op_mul (pe_op op_mod (pe_callTy call_int1 (by rfl) T.int (by decide +kernel) (pa_cons (pe_op op_mul (pv 4) (pv 4)) pa_nil)) pe_int)
          (pe_op op_add (pe_op op_mod (pe_callTy call_int1 (by rfl) T.int (by decide +kernel) (pa_cons (pv 4) pa_nil)) pe_int) pe_int)))
      (pss_cons (ps_asg (pe_op op_mod (pe_callTy call_int1 (by rfl) T.int (by decide +kernel) (pa_cons (pe_op op_add (pe_op op_add (pv 5) (pe_op op_mul pe_int (pv 4))) pe_int) pa_nil)) pe_int) (pg_sub (pv 0) pe_int set_list))
      (pss_one (ps_ret (pe_op op_mod (pe_callTy call_int1 (by rfl) T.int (by decide +kernel) (pa_cons (pe_op op_add (pe_op op_fdiv (pe_ix ix_list (pv 0) pe_int fun _ _ => rfl) pe_int)
          (pe_op op_mul (pe_op op_mod (pe_callTy call_int1 (by rfl) T.int (by decide +kernel) (pa_cons (pe_ix ix_list (pv 0) pe_int fun _ _ => rfl) pa_nil)) pe_int) pe_int)) pa_nil)) (pv 1))))))))), ?_⟩
    -- behind the first if the source is as it may be
    refine ⟨fun σ H1 => ∃ cell, σ = [some (.ref p), some (.int m), cell, none, none, none] ∧ Src H1 p q cells ∧ But p H H1, ?_, ?_⟩
    · refine ⟨_, rfl, _, _, _, _, rfl, rfl, SqL.of hp, rfl, _, rfl, _, _, rfl, rfl, _, rfl, ?_⟩
      refine ite2 (fun hlt => ?_) (fun _ => iteF ⟨_, rfl, ⟨⟨i, c, seed, n, hp, hi, hc⟩, hq, hfew, hne⟩, But.refl _ _⟩)
      refine ⟨_, rfl, _, _, _, _, rfl, rfl, SqL.of hp, rfl, _, rfl, _, _, _, _, rfl, rfl, SqL.of hp, rfl, q, _, rfl, .inl (SqL.of hq), _, _, rfl, rfl, _, rfl, ?_⟩
      refine ite2 (fun hlt2 => ?_) (fun _ => ⟨_, rfl, ⟨⟨i, c, seed, n, hp, hi, hc⟩, hq, hfew, hne⟩, But.refl _ _⟩)
      have hlt2 : i < ((cells.map V.int).length : Int) := of_decide_eq_true hlt2
      rw [List.length_map] at hlt2
      obtain ⟨j, rfl⟩ := Int.eq_ofNat_of_zero_le hi
      have hj : j < cells.length := by omega
      have hcell : (cells.map V.int)[j]? = some (V.int cells[j]) := by rw [List.getElem?_map, List.getElem?_eq_getElem hj]; rfl
      have hqp : ∀ {H' : Hp}, But p H H' → H' q = some (.lst (cells.map V.int)) := fun b => (b q hne.symm).trans hq
      refine ⟨_, rfl, _, _, _, _, rfl, rfl, SqL.of hp, rfl, _, rfl, _, _, _, _, rfl, rfl, SqL.of hp, rfl, q, _, _, _, rfl, rfl, SqL.of hq, atI_nat hcell, ?_⟩
      -- _law_src[1] = _law_src[1] + 1
      refine ⟨_, rfl, _, _, _, _, rfl, rfl, SqL.of hp, rfl, _, _, rfl, rfl, _, rfl, p, _, _, _, rfl, rfl, hp, rfl, ?_⟩
      -- _law_src[3] = ..
      refine ⟨_, rfl, _, _, _, _, rfl, rfl, SqL.of upd_same, rfl, _, _, rfl, rfl, .inr ⟨by decide, by decide⟩, _, rfl, .inl ⟨_, rfl, _, _, rfl, rfl, (by show (0 : Int) < 2147483323; decide), _, _, rfl, rfl, _, _, rfl, rfl, .inl ⟨_, rfl, _, _, rfl, rfl, (by show (0 : Int) < 2147483549; decide), _, rfl, p, _, _, _, rfl, rfl, upd_same, rfl, ?_⟩⟩⟩
      -- _law_src[2] = ..
      refine ⟨_, rfl, _, _, rfl, rfl, ⟨by decide, by decide, by decide⟩, _, _, rfl, rfl, _, rfl, ?_⟩
      refine ite2 (fun hge => ?_) (fun _ => ?_)
      · refine ⟨_, rfl, _, rfl, p, _, _, _, rfl, rfl, upd_same, rfl, ⟨_, rfl, ⟨⟨_, _, _, _, upd_same, by omega, ?_⟩, ?_, hfew, hne⟩, ?_⟩⟩
        · have z := of_decide_eq_true hge
          exact Int.le_trans (by decide) z
        · exact hqp (But.trans (But.trans But.upd But.upd) But.upd)
        · exact But.trans (But.trans But.upd But.upd) But.upd
      · exact ⟨_, rfl, p, _, _, _, rfl, rfl, upd_same, rfl, ⟨_, rfl, ⟨⟨_, _, _, _, upd_same, by omega, Int.le_refl _⟩, hqp (But.trans (But.trans But.upd But.upd) But.upd), hfew, hne⟩, But.trans (But.trans But.upd But.upd) But.upd⟩⟩
    · rintro σ H1 ⟨cell, rfl, ⟨⟨i, c, seed, n, hp, hi, hc⟩, hq, _, _⟩, hB⟩
      -- if _law_src[2] >= _law_many
      refine ⟨_, rfl, _, _, _, _, rfl, rfl, SqL.of hp, rfl, _, rfl, _, _, rfl, rfl, _, rfl, ?_⟩
      refine ite2 (fun _ => ?_) (fun _ => ?_)
      · refine ⟨_, rfl, _, _, _, _, rfl, rfl, SqL.of hp, rfl, .inl ⟨_, rfl, _, rfl, _, _, rfl, rfl, hm0, ?_⟩⟩
        refine ⟨_, rfl, _, _, _, _, rfl, rfl, SqL.of hp, rfl, _, rfl, _, _, rfl, rfl, wide_div hm0 (b := 100) (by omega) (by decide) (by decide), _, rfl, p, _, _, _, rfl, rfl, hp, rfl, ?_⟩
        exact ⟨_, rfl, k _ _ (Int.emod_nonneg _ (by omega)) (Int.emod_lt_of_pos _ hm0) ⟨⟨_, _, _, _, upd_same, hi, Int.ediv_nonneg hc (Int.le_of_lt hm0)⟩, (upd_ne hne.symm).trans hq, hfew, hne⟩ (But.trans hB But.upd)⟩
      · -- _law_src[4] = _law_src[4] + 1
        refine ⟨_, rfl, _, _, _, _, rfl, rfl, SqL.of hp, rfl, _, _, rfl, rfl, _, rfl, p, _, _, _, rfl, rfl, hp, rfl, ?_⟩
        -- _law_root
        refine ⟨fun σ H2 => ∃ root : Int, 0 ≤ root ∧ root < 2147483629 ∧ σ = [some (.ref p), some (.int m), cell, none, some (.int root), none] ∧ H2 = upd H1 p (.lst (srcL q i c seed (n + 1))), ?_, ?_⟩
        · refine ⟨_, rfl, _, _, _, _, rfl, rfl, SqL.of upd_same, rfl, _, rfl, _, _, _, _, rfl, rfl, SqL.of upd_same, rfl, _, _, rfl, rfl, .inr ⟨by decide, by decide⟩, _, _, rfl, rfl, .inl ⟨_, rfl, _, _, rfl, rfl, (by show (0 : Int) < 2147483629; decide), ?_⟩⟩
          exact ⟨_, Int.emod_nonneg _ (by decide), Int.emod_lt_of_pos _ (by decide), rfl, rfl⟩
        · rintro σ H2 ⟨root, r0, r1, rfl, rfl⟩
          -- _law_grown
          refine ⟨_, rfl, _, rfl, _, _, rfl, rfl, .inl ⟨by omega, by omega⟩, .inl ⟨_, rfl, _, _, rfl, rfl, (by show (0 : Int) < 2147483399; decide), ?_⟩⟩
          refine ⟨_, rfl, .inl ⟨_, rfl, _, _, rfl, rfl, (by show (0 : Int) < 39989; decide), _, _, rfl, rfl, _, _, rfl, rfl, .inl ⟨?_, ?_⟩, ?_⟩⟩
          · exact Int.lt_of_lt_of_le (by decide) (Int.emod_nonneg _ (by decide))
          · exact Int.lt_of_lt_of_le (Int.emod_lt_of_pos _ (by decide)) (by decide)
          -- _law_src[3]
          refine ⟨_, rfl, _, rfl, _, _, rfl, rfl, .inl ⟨by decide, by decide⟩, _, _, rfl, rfl, _, _, rfl, rfl, .inl ⟨_, rfl, _, _, rfl, rfl, (by show (0 : Int) < 2147483549; decide), _, rfl, p, _, _, _, rfl, rfl, upd_same, rfl, ?_⟩⟩
          -- return
          refine ⟨_, rfl, _, _, _, _, rfl, rfl, SqL.of upd_same, rfl, _, _, rfl, rfl, ⟨by decide, by decide⟩, _, rfl, _, _, _, _, rfl, rfl, SqL.of upd_same, rfl, .inl ⟨_, rfl, _, _, rfl, rfl, (by show (0 : Int) < 8521; decide), _, _, rfl, rfl, .inr ⟨by decide, by decide⟩, _, _, rfl, rfl, .inl ⟨_, rfl, _, rfl, _, _, rfl, rfl, hm0, ?_⟩⟩⟩
          exact k _ _ (Int.emod_nonneg _ (by omega)) (Int.emod_lt_of_pos _ hm0) ⟨⟨_, _, _, _, upd_same, hi, hc⟩, by rw [upd_ne hne.symm, upd_ne hne.symm]; exact hq, hfew, hne⟩ (But.trans hB (But.trans But.upd But.upd))
theorem ok_source {f : Addr} {fd : FuncData} (F : Fun K "_law_source" "_law_source" sSource f fd) (T : Nm mg) : FnOk P w K mg base CX0 1 f fd ["_law_script"] (spSource K) := by
  refine F.ok scSource (fun vs H Q E h => ?_) (fun cdv A outer s H vs Q E hr h => ?_)
  · obtain ⟨a, ns, rfl, _⟩ := h
    rfl
  · obtain ⟨a, ns, rfl, hS, hl, k⟩ := h
    have nd := scSource.nd
    have cut : cutV (ns.map V.int) none (some 63) = ns.map V.int := by
      unfold cutV HT.sIx
      rw [List.drop_zero, List.length_map]
      refine List.take_of_length_le ?_
      rw [List.length_map]
      show ns.length ≤ min 63 ns.length - 0
      omega
    refine ⟨_, pss_cons (ps_set (i := 1) nd rfl (Or.inl rfl) pe_int)
      (pss_cons (ps_for PassesOwn.never rfl (pi_list (pe_slice sl_list (pv 0) po_none (po_some pe_int))) (pg_name (i := 2) nd rfl (Or.inl rfl))
        (pss_one (ps_set (i := 1) nd rfl (Or.inl rfl) (pe_op op_mod (pe_callTy call_int1 (by rfl) T.int (by decide +kernel) (pa_cons (pe_op op_add (pe_op op_add (pe_op op_mul (pv 1) pe_int)
            (pe_op op_mod (pe_callTy call_int1 (by rfl) T.int (by decide +kernel) (pa_cons (pv 2) pa_nil)) pe_int)) pe_int) pa_nil)) pe_int))))
      (pss_one (ps_ret (pe_lst (pa_cons (pe_callTy call_list_of (by rfl) T.list (by decide +kernel) (pa_cons (pe_slice sl_list (pv 0) po_none (po_some pe_int)) pa_nil))
        (pa_cons pe_int (pa_cons pe_int (pa_cons (pv 1) (pa_cons pe_int pa_nil))))))))), ?_⟩
    refine ⟨_, rfl, _, rfl, a, _, rfl, hS, fun u hu => ?_⟩
    rw [cut]
    have sm : Same H (upd H u (.lst (ns.map V.int))) := fun b o e => by rw [upd_ne (ne_of_none e hu)]; exact e
    refine ⟨u, rfl, ⟨_, SqL.of upd_same⟩, for_list (K := K) (a := u) (xs := ns.map V.int) (fun i σ H2 => ∃ (sd : Int) (v : Option V), σ = [some (.ref a), some (.int sd), v] ∧ H2 = upd H u (.lst (ns.map V.int)))
      ⟨_, _, rfl, rfl⟩ (fun i σ H2 _ ⟨_, _, _, e⟩ => e ▸ SqL.of upd_same) ?_ ?_⟩
    · rintro i y σ H2 hi ⟨sd, v, rfl, rfl⟩
      obtain ⟨z, rfl⟩ : ∃ z, y = V.int z := by
        rw [List.getElem?_map] at hi
        obtain ⟨z, _, e⟩ := Option.map_eq_some_iff.mp hi
        exact ⟨z, e.symm⟩
      exact ⟨_, rfl, _, _, rfl, rfl, .inr ⟨by decide, by decide⟩, _, rfl, .inl ⟨_, rfl, _, _, rfl, rfl, (by show (0 : Int) < 2147483353; decide), _, _, rfl, rfl, _, _, rfl, rfl, .inl ⟨_, rfl, _, _, rfl, rfl, (by show (0 : Int) < 2147483587; decide), _, _, rfl, rfl⟩⟩⟩
    · rintro σ H2 ⟨sd, v, rfl, rfl⟩
      refine ⟨_, rfl, _, rfl, a, _, rfl, sm.seq hS, fun u2 hu2 => ?_⟩
      rw [cut]
      refine ⟨u2, _, rfl, .inl (SqL.of upd_same), fun u3 hu3 => ⟨_, rfl, by show 5 ≤ sizeLine; decide, fun p hp => ?_⟩⟩
      have n3 : u3 ≠ p := fun z => by rw [z, upd_same] at hp; cases hp
      have sm2 : Same H (upd (upd (upd H u (.lst (ns.map V.int))) u2 (.lst (ns.map V.int))) u3 (.lst (ns.map V.int))) := fun b o e => by
        rw [upd_ne (ne_of_none (by rw [upd_ne (ne_of_none (sm b o e) hu2)]; exact sm b o e) hu3), upd_ne (ne_of_none (sm b o e) hu2)]
        exact sm b o e
      have sm3 : Same H (upd (upd (upd H u (.lst (ns.map V.int))) u2 (.lst (ns.map V.int))) u3 (.lst (ns.map V.int))) := sm2
      refine k p u3 _ (sm2.free hp) ?_ (fun b o e => ?_) ⟨⟨0, 0, sd, 0, upd_same, Int.le_refl _, Int.le_refl _⟩, ?_, hl, n3.symm⟩
      · have e1 : Same H (upd (upd H u (.lst (ns.map V.int))) u2 (.lst (ns.map V.int))) := fun b o e => by
          rw [upd_ne (ne_of_none (sm b o e) hu2)]
          exact sm b o e
        exact e1.free hu3
      · rw [upd_ne (ne_of_none (sm2 b o e) hp)]
        exact sm2 b o e
      · rw [upd_ne n3, upd_same]
/-! ### one of some things; are two data shown alike -/
def spOf (K : PySem.W.Frag) : Sp := fun vs H Q _ => ∃ (p q : Addr) (cells : List Int) (sv : V), vs = [.ref p, sv] ∧ Src H p q cells ∧
  ((∃ (a : Addr) (xs : List V), sv = .ref a ∧ (∀ H', But p H H' → SqL K H' a xs ∨ SqT K H' a xs) ∧ 0 < xs.length ∧ xs.length < 1000000 ∧
      ∀ (i : Nat) (x : V) (H' : Hp), xs[i]? = some x → Src H' p q cells → But p H H' → Q x H') ∨
    ∃ z : Str, sv = .str z ∧ 0 < z.length ∧ z.length < 1000000 ∧ ∀ (c : Nat) (H' : Hp), c ∈ z.cps.toList → Src H' p q cells → But p H H' → Q (.str ⟨#[c]⟩) H')
theorem scOf : FnScope ["_law_src", "_law_some"] ["_law_src", "_law_some"] (defScope sOf) := ⟨rfl, rfl, rfl, by decide +kernel, rfl, by decide +kernel, by decide +kernel⟩
theorem big : (1000000 : Nat) ≤ sizeLine := by decide
theorem ok_of {f fD : Addr} {fd fdD : FuncData} (F : Fun K "_law_of" "_law_of" sOf f fd) (T : Nm mg) (FD : Fun K "_law_draw" "_law_draw" sDraw fD fdD) (mD : mg "_law_draw" = some (.ref fD)) (bD : Binds K fdD ["_law_src", "_law_many"] []) :
    FnOk P w K mg base CX0 2 f fd ["_law_src", "_law_some"] (spOf K) := by
  have GD : FnOk P w K mg base CX0 1 fD fdD ["_law_src", "_law_many"] spDraw := ok_draw FD T
  refine F.ok scOf (fun vs H Q E h => ?_) (fun cdv A outer s H vs Q E hr h => ?_)
  · obtain ⟨p, q, cells, sv, rfl, _⟩ := h
    rfl
  · obtain ⟨p, q, cells, sv, rfl, hS, h⟩ := h
    refine ⟨_, pss_one (ps_ret (pe_ix ix_seq (pv 1) (pe_call GD hr (by rfl) mD FD.kp bD .nil pass0 (pa_cons (pv 0) (pa_cons (pe_callB call_len (by rfl) T.len PySem.boot_len (pa_cons (pv 1) pa_nil)) pa_nil))) fun _ _ => rfl)), ?_⟩
    rcases h with ⟨a, xs, rfl, hx, h0, h1, k⟩ | ⟨z, rfl, h0, h1, k⟩
    · refine ⟨_, rfl, _, rfl, _, rfl, _, xs.length, rfl, ?_, p, q, cells, _, rfl, hS, by omega, by omega, fun r H' r0 r1 S' B' => ?_⟩
      · rcases hx H (But.refl _ _) with z | z
        · exact .inl ⟨_, z, rfl⟩
        · exact .inr ⟨_, z, rfl⟩
      · obtain ⟨j, rfl⟩ := Int.eq_ofNat_of_zero_le r0
        have hj : j < xs.length := by omega
        have e : xs[j]? = some xs[j] := List.getElem?_eq_getElem hj
        rcases hx H' B' with z | z
        · exact .inl ⟨a, xs, _, _, rfl, rfl, z, atI_nat e, k j _ H' e S' B'⟩
        · exact .inr (.inl ⟨a, xs, _, _, rfl, rfl, z, atI_nat e, k j _ H' e S' B'⟩)
    · refine ⟨_, rfl, _, rfl, _, rfl, _, z.length, rfl, ⟨Nat.le_trans (Nat.le_of_lt h1) big, rfl⟩, p, q, cells, _, rfl, hS, by omega, by omega, fun r H' r0 r1 S' B' => ?_⟩
      obtain ⟨j, rfl⟩ := Int.eq_ofNat_of_zero_le r0
      have hl : z.cps.toList.length = z.length := by simp [Str.length]
      have hj : j < z.cps.toList.length := by omega
      have e : z.cps.toList[j]? = some z.cps.toList[j] := List.getElem?_eq_getElem hj
      exact .inr (.inr ⟨z, _, _, rfl, rfl, Nat.le_trans (Nat.le_of_lt h1) big, atI_nat e, k _ H' (List.getElem_mem hj) S' B'⟩)
def spSame (K : PySem.W.Frag) : Sp := fun vs H Q _ => ∃ (x y : V) (d e : PyData), vs = [x, y] ∧ Dp K H x d ∧ Dp K H y e ∧ Sm d ∧ Sm e ∧ Q (.bl (decide (d.shown = e.shown))) H
theorem scSame : FnScope ["_law_found", "_law_due"] ["_law_found", "_law_due"] (defScope sSame) := ⟨rfl, rfl, rfl, by decide +kernel, rfl, by decide +kernel, by decide +kernel⟩
theorem ok_same {f : Addr} {fd : FuncData} (F : Fun K "_law_same" "_law_same" sSame f fd) (T : Nm mg) : FnG P w K mg base CX0 1 f fd ["_law_found", "_law_due"] (spSame K) := by
  refine okG F scSame (fun vs H Q E h => ?_) (fun cdv A outer s H vs Q E hG hr h => ?_)
  · obtain ⟨x, y, d, e, rfl, _⟩ := h
    rfl
  · obtain ⟨x, y, d, e, rfl, hx, hy, sd, se, k⟩ := h
    refine ⟨_, pss_one (ps_ret (pe_cmpR op_eq (pe_callB (call_repr hG hr.units) (by rfl) T.repr (by decide +kernel) (pa_cons (pv 0) pa_nil)) (pe_callB (call_repr hG hr.units) (by rfl) T.repr (by decide +kernel) (pa_cons (pv 1) pa_nil)) (nomark _))), ?_⟩
    refine ⟨_, rfl, _, d, rfl, hx, sd, _, rfl, _, e, rfl, hy, se, rfl, ?_⟩
    have q : decide (V.str d.shown = V.str e.shown) = decide (d.shown = e.shown) := by
      by_cases z : d.shown = e.shown
      · rw [z, decide_eq_true rfl, decide_eq_true rfl]
      · rw [decide_eq_false z, decide_eq_false fun y => z (V.str.inj y)]
    show Q (.bl (decide (V.str d.shown = V.str e.shown))) H
    rw [q]
    exact k
end
end Lw

set_option maxRecDepth 100000
set_option linter.unusedVariables false
namespace Lw
open PySem PySem.Spec PyProof.Rows L2 VG
/-- what copied asks of the names of the top -/
structure NmC (mg : Str → Option Value) : Prop where
  isi : mg "isinstance" = none
  list : mg "list" = none
  tup : mg "tuple" = none
def whole : PyData → Bool
  | .int _ => true
  | _ => false
theorem whole_int {d : PyData} (h : whole d = true) : ∃ i, d = .int i := by
  cases d <;> first | exact ⟨_, rfl⟩ | cases h
def intOf : PyData → Int
  | .int i => i
  | _ => 0
def isRat : PyData → Bool
  | .tuple [d1, d2] => whole d1 && (whole d2 && (decide (1 ≤ intOf d2) && decide (Nat.gcd (intOf d1).natAbs (intOf d2).natAbs = 1)))
  | _ => false
/-- top and bottom in lowest terms -/
def low (t b : Int) : Int × Int := (t / (Nat.gcd t.natAbs b.natAbs : Int), b / (Nat.gcd t.natAbs b.natAbs : Int))
structure NmW (mg : Str → Option Value) : Prop where
  isi : mg "isinstance" = none
  int : mg "int" = none
  bool : mg "bool" = none
section
variable {P : Program} {w : World} {K : PySem.W.Frag} {mg : Str → Option Value} {base : Heap}
theorem scCopied : FnScope ["value", "item"] ["value"] (defScope s_copied) := ⟨rfl, rfl, rfl, by decide +kernel, rfl, by decide +kernel, by decide +kernel⟩
theorem copied_step {n k : Nat} {f : Addr} {fd : FuncData} (F : Fun K "copied" "copied" s_copied f fd) (T : NmC mg) (mC : mg "copied" = some (.ref f)) (bC : Binds K fd ["value"] []) (G : FnOk P w K mg base CX0 k f fd ["value"] (spPrev K n)) :
    FnOk P w K mg base CX0 (k + 1) f fd ["value"] (spCopy K n) := by
  refine F.ok scCopied (fun vs H Q E h => ?_) (fun cdv A outer s H vs Q E hr h => ?_)
  · obtain ⟨x, d, rfl, _⟩ := h
    rfl
  · obtain ⟨x, d, rfl, hx, hf, q⟩ := h
    have nd := scCopied.nd
    refine ⟨_, pss_cons (ps_if (pt_val (pe_callB call_isi (by rfl) T.isi (by decide +kernel) (pa_cons (pv 0) (pa_cons (pe_bltn (v := .ty "list") (by rfl) T.list (by decide +kernel) rfl) pa_nil))))
        (pss_one (ps_ret (pe_lc (own := [("item", 1)]) (g := gName 1) (tt := tYes) rfl nd (pi_list (pv 0)) (blkOk_by (own := [("item", 1)]) (N := ["value", "item"]) (sc := defScope s_copied) (by decide +kernel)) (fun _ _ _ _ _ => pg_name (i := 1) nd rfl (Or.inl rfl)) (fun _ _ _ _ _ => pts_nil)
          (fun _ _ _ _ _ => pe_call G hr (by rfl) mC F.kp bC .nil pass0 (pa_cons (pv 1) pa_nil))))) pss_nil)
      (pss_cons (ps_if (pt_val (pe_callB call_isi (by rfl) T.isi (by decide +kernel) (pa_cons (pv 0) (pa_cons (pe_bltn (v := .ty "tuple") (by rfl) T.tup (by decide +kernel) rfl) pa_nil))))
        (pss_one (ps_ret (pe_callTy call_tuple_of (by rfl) T.tup (by decide +kernel) (pa_cons (pe_lc (own := [("item", 1)]) (g := gName 1) (tt := tYes) rfl nd (pi_tup (pv 0)) (blkOk_by (own := [("item", 1)]) (N := ["value", "item"]) (sc := defScope s_copied) (by decide +kernel)) (fun _ _ _ _ _ => pg_name (i := 1) nd rfl (Or.inl rfl)) (fun _ _ _ _ _ => pts_nil)
          (fun _ _ _ _ _ => pe_call G hr (by rfl) mC F.kp bC .nil pass0 (pa_cons (pv 1) pa_nil))) pa_nil)))) pss_nil)
      (pss_one (ps_ret (pv 0)))), ?_⟩
    cases hx with
    | non => exact ⟨_, rfl, _, _, _, _, false, rfl, .ty "list", .base .non, kit_ty (by decide +kernel), _, rfl, iteF ⟨_, rfl, _, _, _, _, false, rfl, .ty "tuple", .base .non, kit_ty (by decide +kernel), _, rfl, iteF ⟨_, rfl, q _ H (Same.refl H) .non⟩⟩⟩
    | bl b => exact ⟨_, rfl, _, _, _, _, false, rfl, .ty "list", .base (.bl b), kit_ty (by decide +kernel), _, rfl, iteF ⟨_, rfl, _, _, _, _, false, rfl, .ty "tuple", .base (.bl b), kit_ty (by decide +kernel), _, rfl, iteF ⟨_, rfl, q _ H (Same.refl H) (.bl b)⟩⟩⟩
    | int i => exact ⟨_, rfl, _, _, _, _, false, rfl, .ty "list", .base (.int i), kit_ty (by decide +kernel), _, rfl, iteF ⟨_, rfl, _, _, _, _, false, rfl, .ty "tuple", .base (.int i), kit_ty (by decide +kernel), _, rfl, iteF ⟨_, rfl, q _ H (Same.refl H) (.int i)⟩⟩⟩
    | str z => exact ⟨_, rfl, _, _, _, _, false, rfl, .ty "list", .base (.str z), kit_ty (by decide +kernel), _, rfl, iteF ⟨_, rfl, _, _, _, _, false, rfl, .ty "tuple", .base (.str z), kit_ty (by decide +kernel), _, rfl, iteF ⟨_, rfl, q _ H (Same.refl H) (.str z)⟩⟩⟩
    | @lst a xs ds hs hd =>
      refine ⟨_, rfl, _, _, _, _, true, rfl, .ty "list", tyx_list hs, kit_ty (by decide +kernel), _, rfl, iteT ?_⟩
      obtain ⟨m, rfl, hw, hl⟩ : ∃ m, n = m + 1 ∧ ds.length ≤ 1000 ∧ ∀ d ∈ ds, fit m d = true := by
        cases n with
        | zero => cases hf
        | succ m =>
          obtain ⟨h1, h2⟩ := Bool.and_eq_true_iff.mp (show (decide (ds.length ≤ 1000) && ds.all (fit m)) = true from hf)
          exact ⟨m, rfl, of_decide_eq_true h1, List.all_eq_true.mp h2⟩
      refine ⟨_, rfl, a, rfl, ⟨_, hs⟩, fun D hD => lc_list (K := K) (a := a) (xs := xs) (Copying K H D ds) (Copying.start hD) (fun i G _ c => c.same.seq hs) (fun i y G hy c => ?_) (fun G c => ?_)⟩
      · obtain ⟨e, he, hye⟩ := DpAll.at' hd hy
        refine ⟨rfl, y, rfl, y, e, rfl, Dp.same c.same e y hye, hl e (List.mem_of_getElem? he), fun y' G' sm hn => ?_⟩
        obtain ⟨acc, e1, e2, e3⟩ := c.more hD he sm hn
        have lt : i < ds.length := (List.getElem?_eq_some_iff.mp he).1
        exact ⟨acc, e1, by rw [e2]; exact Nat.lt_of_lt_of_le (Nat.lt_of_lt_of_le lt hw) (by decide), e3⟩
      · rw [DpAll.len hd] at c
        obtain ⟨acc, e1, e2⟩ := c.all hD
        exact q _ G c.same (.lst (SqL.of (by rw [newer_at hD]; exact e1)) e2)
    | @tup a xs ds hs hd =>
      refine ⟨_, rfl, _, _, _, _, false, rfl, .ty "list", tyx_tup hs, kit_ty (by decide +kernel), _, rfl, iteF ⟨_, rfl, _, _, _, _, true, rfl, .ty "tuple", tyx_tup hs, kit_ty (by decide +kernel), _, rfl, iteT ?_⟩⟩
      obtain ⟨m, rfl, hw, hl⟩ : ∃ m, n = m + 1 ∧ ds.length ≤ 1000 ∧ ∀ d ∈ ds, fit m d = true := by
        cases n with
        | zero => cases hf
        | succ m =>
          obtain ⟨h1, h2⟩ := Bool.and_eq_true_iff.mp (show (decide (ds.length ≤ 1000) && ds.all (fit m)) = true from hf)
          exact ⟨m, rfl, of_decide_eq_true h1, List.all_eq_true.mp h2⟩
      refine ⟨_, rfl, a, rfl, ⟨_, hs⟩, fun D hD => lc_tup (K := K) (a := a) (xs := xs) (Copying K H D ds) (Copying.start hD) (fun i G _ c => Same.tup c.same hs) (fun i y G hy c => ?_) (fun G c => ?_)⟩
      · obtain ⟨e, he, hye⟩ := DpAll.at' hd hy
        refine ⟨rfl, y, rfl, y, e, rfl, Dp.same c.same e y hye, hl e (List.mem_of_getElem? he), fun y' G' sm hn => ?_⟩
        obtain ⟨acc, e1, e2, e3⟩ := c.more hD he sm hn
        have lt : i < ds.length := (List.getElem?_eq_some_iff.mp he).1
        exact ⟨acc, e1, by rw [e2]; exact Nat.lt_of_lt_of_le (Nat.lt_of_lt_of_le lt hw) (by decide), e3⟩
      · rw [DpAll.len hd] at c
        obtain ⟨acc, e1, e2⟩ := c.all hD
        refine ⟨D, acc, rfl, .inl ⟨SqL.of e1, fun l hl => ?_⟩⟩
        have sm := same_upd (o := .tup acc) hl
        have hl0 : H l = none := c.same.free hl
        refine q _ _ (c.same.trans sm) (.tup (SqT.of (by rw [newer_at hl0]; exact upd_same)) (DpAll.same (newer_mono (fun b z => z) fun b z o e => sm b o e) _ _ e2))
/-- copied, for data of any depth -/
theorem ok_copied {f : Addr} {fd : FuncData} (F : Fun K "copied" "copied" s_copied f fd) (T : NmC mg) (mC : mg "copied" = some (.ref f)) (bC : Binds K fd ["value"] []) : ∀ n, FnOk P w K mg base CX0 (n + 1) f fd ["value"] (spCopy K n)
  | 0 => copied_step F T mC bC ⟨fun _ _ _ _ h => False.elim h, fun _ _ _ _ _ _ _ _ _ _ _ _ _ h => False.elim h⟩
  | n + 1 => copied_step F T mC bC (ok_copied F T mC bC n)
/-- a list stands as a list of its own -/
def topL (H : Hp) (y : V) (d : PyData) : Prop := ∀ ds, d = .list ds → ∃ a xs, y = .ref a ∧ H a = some (.lst xs) ∧ xs.length = ds.length
def spCopyT (K : PySem.W.Frag) (n : Nat) : Sp := fun vs H Q _ => ∃ (x : V) (d : PyData), vs = [x] ∧ Dp K H x d ∧ fit n d = true ∧ ∀ (y : V) (H' : Hp), Same H H' → Dp K (newer H H') y d → topL (newer H H') y d → Q y H'
theorem copied_top {n k : Nat} {f : Addr} {fd : FuncData} (F : Fun K "copied" "copied" s_copied f fd) (T : NmC mg) (mC : mg "copied" = some (.ref f)) (bC : Binds K fd ["value"] []) (G : FnOk P w K mg base CX0 k f fd ["value"] (spPrev K n)) :
    FnOk P w K mg base CX0 (k + 1) f fd ["value"] (spCopyT K n) := by
  refine F.ok scCopied (fun vs H Q E h => ?_) (fun cdv A outer s H vs Q E hr h => ?_)
  · obtain ⟨x, d, rfl, _⟩ := h
    rfl
  · obtain ⟨x, d, rfl, hx, hf, q⟩ := h
    have nd := scCopied.nd
    refine ⟨_, pss_cons (ps_if (pt_val (pe_callB call_isi (by rfl) T.isi (by decide +kernel) (pa_cons (pv 0) (pa_cons (pe_bltn (v := .ty "list") (by rfl) T.list (by decide +kernel) rfl) pa_nil))))
        (pss_one (ps_ret (pe_lc (own := [("item", 1)]) (g := gName 1) (tt := tYes) rfl nd (pi_list (pv 0)) (blkOk_by (own := [("item", 1)]) (N := ["value", "item"]) (sc := defScope s_copied) (by decide +kernel)) (fun _ _ _ _ _ => pg_name (i := 1) nd rfl (Or.inl rfl)) (fun _ _ _ _ _ => pts_nil)
          (fun _ _ _ _ _ => pe_call G hr (by rfl) mC F.kp bC .nil pass0 (pa_cons (pv 1) pa_nil))))) pss_nil)
      (pss_cons (ps_if (pt_val (pe_callB call_isi (by rfl) T.isi (by decide +kernel) (pa_cons (pv 0) (pa_cons (pe_bltn (v := .ty "tuple") (by rfl) T.tup (by decide +kernel) rfl) pa_nil))))
        (pss_one (ps_ret (pe_callTy call_tuple_of (by rfl) T.tup (by decide +kernel) (pa_cons (pe_lc (own := [("item", 1)]) (g := gName 1) (tt := tYes) rfl nd (pi_tup (pv 0)) (blkOk_by (own := [("item", 1)]) (N := ["value", "item"]) (sc := defScope s_copied) (by decide +kernel)) (fun _ _ _ _ _ => pg_name (i := 1) nd rfl (Or.inl rfl)) (fun _ _ _ _ _ => pts_nil)
          (fun _ _ _ _ _ => pe_call G hr (by rfl) mC F.kp bC .nil pass0 (pa_cons (pv 1) pa_nil))) pa_nil)))) pss_nil)
      (pss_one (ps_ret (pv 0)))), ?_⟩
    cases hx with
    | non => exact ⟨_, rfl, _, _, _, _, false, rfl, .ty "list", .base .non, kit_ty (by decide +kernel), _, rfl, iteF ⟨_, rfl, _, _, _, _, false, rfl, .ty "tuple", .base .non, kit_ty (by decide +kernel), _, rfl, iteF ⟨_, rfl, q _ H (Same.refl H) .non (fun _ z => by cases z)⟩⟩⟩
    | bl b => exact ⟨_, rfl, _, _, _, _, false, rfl, .ty "list", .base (.bl b), kit_ty (by decide +kernel), _, rfl, iteF ⟨_, rfl, _, _, _, _, false, rfl, .ty "tuple", .base (.bl b), kit_ty (by decide +kernel), _, rfl, iteF ⟨_, rfl, q _ H (Same.refl H) (.bl b) (fun _ z => by cases z)⟩⟩⟩
    | int i => exact ⟨_, rfl, _, _, _, _, false, rfl, .ty "list", .base (.int i), kit_ty (by decide +kernel), _, rfl, iteF ⟨_, rfl, _, _, _, _, false, rfl, .ty "tuple", .base (.int i), kit_ty (by decide +kernel), _, rfl, iteF ⟨_, rfl, q _ H (Same.refl H) (.int i) (fun _ z => by cases z)⟩⟩⟩
    | str z => exact ⟨_, rfl, _, _, _, _, false, rfl, .ty "list", .base (.str z), kit_ty (by decide +kernel), _, rfl, iteF ⟨_, rfl, _, _, _, _, false, rfl, .ty "tuple", .base (.str z), kit_ty (by decide +kernel), _, rfl, iteF ⟨_, rfl, q _ H (Same.refl H) (.str z) (fun _ z => by cases z)⟩⟩⟩
    | @lst a xs ds hs hd =>
      refine ⟨_, rfl, _, _, _, _, true, rfl, .ty "list", tyx_list hs, kit_ty (by decide +kernel), _, rfl, iteT ?_⟩
      obtain ⟨m, rfl, hw, hl⟩ : ∃ m, n = m + 1 ∧ ds.length ≤ 1000 ∧ ∀ d ∈ ds, fit m d = true := by
        cases n with
        | zero => cases hf
        | succ m =>
          obtain ⟨h1, h2⟩ := Bool.and_eq_true_iff.mp (show (decide (ds.length ≤ 1000) && ds.all (fit m)) = true from hf)
          exact ⟨m, rfl, of_decide_eq_true h1, List.all_eq_true.mp h2⟩
      refine ⟨_, rfl, a, rfl, ⟨_, hs⟩, fun D hD => lc_list (K := K) (a := a) (xs := xs) (Copying K H D ds) (Copying.start hD) (fun i G _ c => c.same.seq hs) (fun i y G hy c => ?_) (fun G c => ?_)⟩
      · obtain ⟨e, he, hye⟩ := DpAll.at' hd hy
        refine ⟨rfl, y, rfl, y, e, rfl, Dp.same c.same e y hye, hl e (List.mem_of_getElem? he), fun y' G' sm hn => ?_⟩
        obtain ⟨acc, e1, e2, e3⟩ := c.more hD he sm hn
        have lt : i < ds.length := (List.getElem?_eq_some_iff.mp he).1
        exact ⟨acc, e1, by rw [e2]; exact Nat.lt_of_lt_of_le (Nat.lt_of_lt_of_le lt hw) (by decide), e3⟩
      · rw [DpAll.len hd] at c
        obtain ⟨acc, e1, e2⟩ := c.all hD
        exact q _ G c.same (.lst (SqL.of (by rw [newer_at hD]; exact e1)) e2) (fun _ z => by cases z; exact ⟨D, acc, rfl, by rw [newer_at hD]; exact e1, DpAll.len e2⟩)
    | @tup a xs ds hs hd =>
      refine ⟨_, rfl, _, _, _, _, false, rfl, .ty "list", tyx_tup hs, kit_ty (by decide +kernel), _, rfl, iteF ⟨_, rfl, _, _, _, _, true, rfl, .ty "tuple", tyx_tup hs, kit_ty (by decide +kernel), _, rfl, iteT ?_⟩⟩
      obtain ⟨m, rfl, hw, hl⟩ : ∃ m, n = m + 1 ∧ ds.length ≤ 1000 ∧ ∀ d ∈ ds, fit m d = true := by
        cases n with
        | zero => cases hf
        | succ m =>
          obtain ⟨h1, h2⟩ := Bool.and_eq_true_iff.mp (show (decide (ds.length ≤ 1000) && ds.all (fit m)) = true from hf)
          exact ⟨m, rfl, of_decide_eq_true h1, List.all_eq_true.mp h2⟩
      refine ⟨_, rfl, a, rfl, ⟨_, hs⟩, fun D hD => lc_tup (K := K) (a := a) (xs := xs) (Copying K H D ds) (Copying.start hD) (fun i G _ c => Same.tup c.same hs) (fun i y G hy c => ?_) (fun G c => ?_)⟩
      · obtain ⟨e, he, hye⟩ := DpAll.at' hd hy
        refine ⟨rfl, y, rfl, y, e, rfl, Dp.same c.same e y hye, hl e (List.mem_of_getElem? he), fun y' G' sm hn => ?_⟩
        obtain ⟨acc, e1, e2, e3⟩ := c.more hD he sm hn
        have lt : i < ds.length := (List.getElem?_eq_some_iff.mp he).1
        exact ⟨acc, e1, by rw [e2]; exact Nat.lt_of_lt_of_le (Nat.lt_of_lt_of_le lt hw) (by decide), e3⟩
      · rw [DpAll.len hd] at c
        obtain ⟨acc, e1, e2⟩ := c.all hD
        refine ⟨D, acc, rfl, .inl ⟨SqL.of e1, fun l hl => ?_⟩⟩
        have sm := same_upd (o := .tup acc) hl
        have hl0 : H l = none := c.same.free hl
        refine q _ _ (c.same.trans sm) (.tup (SqT.of (by rw [newer_at hl0]; exact upd_same)) (DpAll.same (newer_mono (fun b z => z) fun b z o e => sm b o e) _ _ e2)) (fun _ z => by cases z)
theorem two_of {H : Hp} {xs : List V} {ds : List PyData} (hd : DpAll K H xs ds) (h : xs.length = 2) : ∃ y1 y2 d1 d2, xs = [y1, y2] ∧ ds = [d1, d2] ∧ Dp K H y1 d1 ∧ Dp K H y2 d2 := by
  cases hd with
  | nil => cases h
  | cons h1 t =>
    cases t with
    | nil => cases h
    | cons h2 t =>
      cases t with
      | nil => exact ⟨_, _, _, _, rfl, rfl, h1, h2⟩
      | cons h3 t =>
        simp only [List.length_cons] at h
        omega
def spWhole (K : PySem.W.Frag) : Sp := fun vs H Q _ => ∃ (x : V) (d : PyData), vs = [x] ∧ Dp K H x d ∧ Q (.bl (whole d)) H
theorem scWhole : FnScope ["value"] ["value"] (defScope s__is_whole) := ⟨rfl, rfl, rfl, by decide +kernel, rfl, by decide +kernel, by decide +kernel⟩
theorem ok_whole {f : Addr} {fd : FuncData} (F : Fun K "_is_whole" "_is_whole" s__is_whole f fd) (T : NmW mg) : FnOk P w K mg base CX0 1 f fd ["value"] (spWhole K) := by
  refine F.ok scWhole (fun vs H Q E h => ?_) (fun cdv A outer s H vs Q E hr h => ?_)
  · obtain ⟨x, d, rfl, _⟩ := h
    rfl
  · obtain ⟨x, d, rfl, hx, q⟩ := h
    refine ⟨_, pss_one (ps_ret (pe_and (pe_callB call_isi (by rfl) T.isi (by decide +kernel) (pa_cons (pv 0) (pa_cons (pe_bltn (v := .ty "int") (by rfl) T.int (by decide +kernel) rfl) pa_nil)))
      (pe_one (pe_not (pe_callB call_isi (by rfl) T.isi (by decide +kernel) (pa_cons (pv 0) (pa_cons (pe_bltn (v := .ty "bool") (by rfl) T.bool (by decide +kernel) rfl) pa_nil))))))), ?_⟩
    cases hx with
    | non => exact ⟨_, rfl, _, _, _, _, false, rfl, .ty "int", .base .non, kit_ty (by decide +kernel), _, rfl, iteF q⟩
    | bl b => exact ⟨_, rfl, _, _, _, _, true, rfl, .ty "int", .base (.bl b), kit_ty (by decide +kernel), _, rfl, iteT ⟨_, rfl, _, _, _, _, true, rfl, .ty "bool", .base (.bl b), kit_ty (by decide +kernel), _, rfl, q⟩⟩
    | int i => exact ⟨_, rfl, _, _, _, _, true, rfl, .ty "int", .base (.int i), kit_ty (by decide +kernel), _, rfl, iteT ⟨_, rfl, _, _, _, _, false, rfl, .ty "bool", .base (.int i), kit_ty (by decide +kernel), _, rfl, q⟩⟩
    | str z => exact ⟨_, rfl, _, _, _, _, false, rfl, .ty "int", .base (.str z), kit_ty (by decide +kernel), _, rfl, iteF q⟩
    | lst hs hd => exact ⟨_, rfl, _, _, _, _, false, rfl, .ty "int", tyx_list hs, kit_ty (by decide +kernel), _, rfl, iteF q⟩
    | tup hs hd => exact ⟨_, rfl, _, _, _, _, false, rfl, .ty "int", tyx_tup hs, kit_ty (by decide +kernel), _, rfl, iteF q⟩
def spIsRat (K : PySem.W.Frag) : Sp := fun vs H Q _ => ∃ (x : V) (d : PyData), vs = [x] ∧ Dp K H x d ∧ Q (.bl (isRat d)) H
theorem scIsRat : FnScope ["value", "top", "bottom"] ["value"] (defScope s_is_ratio) := ⟨rfl, rfl, rfl, by decide +kernel, rfl, by decide +kernel, by decide +kernel⟩
structure NmR (mg : Str → Option Value) : Prop where
  w : NmW mg
  tup : mg "tuple" = none
  len : mg "len" = none
  gcd : mg "gcd" = some (.builtin "math.gcd")
theorem ok_isRat {f fW : Addr} {fd fdW : FuncData} (F : Fun K "is_ratio" "is_ratio" s_is_ratio f fd) (FW : Fun K "_is_whole" "_is_whole" s__is_whole fW fdW) (T : NmR mg) (mW : mg "_is_whole" = some (.ref fW)) (bW : Binds K fdW ["value"] []) :
    FnOk P w K mg base CX0 2 f fd ["value"] (spIsRat K) := by
  refine F.ok scIsRat (fun vs H Q E h => ?_) (fun cdv A outer s H vs Q E hr h => ?_)
  · obtain ⟨x, d, rfl, _⟩ := h
    rfl
  · obtain ⟨x, d, rfl, hx, q⟩ := h
    have nd := scIsRat.nd
    have GW := ok_whole (P := P) (w := w) (base := base) FW T.w
    refine ⟨_, pss_cons (ps_if (PW.pt (pw_or (pt_not (pt_val (pe_callB call_isi (by rfl) T.w.isi (by decide +kernel) (pa_cons (pv 0) (pa_cons (pe_bltn (v := .ty "tuple") (by rfl) T.tup (by decide +kernel) rfl) pa_nil)))))
        (pw_or1 (pt_cmpR op_ne (pe_callB call_len_seq (by rfl) T.len PySem.boot_len (pa_cons (pv 0) pa_nil)) pe_int (nomark _))))) (pss_one (ps_ret pe_bl)) pss_nil)
      (pss_cons (ps_asg (pv 0) (pg_tup (by rfl) (pgs_cons (pg_name (i := 1) nd rfl (Or.inl rfl)) (pgs_cons (pg_name (i := 2) nd rfl (Or.inl rfl)) pgs_nil))))
      (pss_one (ps_ret (pe_and (pe_call GW hr (by rfl) mW FW.kp bW .nil pass0 (pa_cons (pv 1) pa_nil)) (pe_and (pe_call GW hr (by rfl) mW FW.kp bW .nil pass0 (pa_cons (pv 2) pa_nil)) (pe_and (pe_cmpR op_ge (pv 2) pe_int (nomark _))
        (pe_one (pe_cmpR op_eq (pe_callBfun cr_gcd (by rfl) T.gcd (pa_cons (pv 1) (pa_cons (pv 2) pa_nil))) pe_int (nomark _))))))))), ?_⟩
    cases hx with
    | non => exact ⟨_, rfl, _, _, _, _, false, rfl, .ty "tuple", .base .non, kit_ty (by decide +kernel), _, rfl, iteT (iteT q)⟩
    | bl b => exact ⟨_, rfl, _, _, _, _, false, rfl, .ty "tuple", .base (.bl b), kit_ty (by decide +kernel), _, rfl, iteT (iteT q)⟩
    | int i => exact ⟨_, rfl, _, _, _, _, false, rfl, .ty "tuple", .base (.int i), kit_ty (by decide +kernel), _, rfl, iteT (iteT q)⟩
    | str z => exact ⟨_, rfl, _, _, _, _, false, rfl, .ty "tuple", .base (.str z), kit_ty (by decide +kernel), _, rfl, iteT (iteT q)⟩
    | lst hs hd => exact ⟨_, rfl, _, _, _, _, false, rfl, .ty "tuple", tyx_list hs, kit_ty (by decide +kernel), _, rfl, iteT (iteT q)⟩
    | @tup a xs ds hs hd =>
      refine ⟨_, rfl, _, _, _, _, true, rfl, .ty "tuple", tyx_tup hs, kit_ty (by decide +kernel), _, rfl, iteF ?_⟩
      refine ⟨_, rfl, a, xs, rfl, .inr hs, rfl, _, rfl, ?_⟩
      have hlen := DpAll.len hd
      refine ite2 (fun h => ?_) (fun h => ?_)
      · have n2 : ds.length ≠ 2 := fun z => by
          rw [hlen, z] at h
          exact absurd h (by decide)
        have e : isRat (.tuple ds) = false := by
          match ds, n2 with
          | [], _ => rfl
          | [_], _ => rfl
          | [_, _], n => exact absurd rfl n
          | _ :: _ :: _ :: _, _ => rfl
        rw [e] at q
        exact q
      · have n2 : xs.length = 2 := by
          by_cases z : xs.length = 2
          · exact z
          · have w : decide (V.int (xs.length : Int) = V.int 2) = false := decide_eq_false fun y => z (by have := V.int.inj y; omega)
            rw [w] at h
            exact absurd rfl h
        obtain ⟨y1, y2, d1, d2, rfl, rfl, h1, h2⟩ := two_of hd n2
        have q : Q (.bl (isRat (.tuple [d1, d2]))) H := q
        clear h
        refine ⟨_, rfl, a, _, rfl, hs, rfl, ?_⟩
        have q : Q (.bl (whole d1 && (whole d2 && (decide (1 ≤ intOf d2) && decide (Nat.gcd (intOf d1).natAbs (intOf d2).natAbs = 1))))) H := q
        refine ⟨y1, _, rfl, y2, _, rfl, rfl, ?_⟩
        refine ⟨_, rfl, y1, d1, rfl, h1, _, rfl, ?_⟩
        cases e1 : whole d1 with
        | false =>
          rw [e1] at q
          exact iteF q
        | true =>
          rw [e1] at q
          refine iteT ⟨_, rfl, y2, d2, rfl, h2, _, rfl, ?_⟩
          cases e2 : whole d2 with
          | false =>
            rw [e2] at q
            exact iteF q
          | true =>
            rw [e2] at q
            obtain ⟨i1, rfl⟩ := whole_int e1
            obtain ⟨i2, rfl⟩ := whole_int e2
            cases h1
            cases h2
            refine iteT ⟨_, rfl, _, _, rfl, rfl, _, rfl, ?_⟩
            have q : Q (.bl (decide (1 ≤ i2) && decide (Nat.gcd i1.natAbs i2.natAbs = 1))) H := q
            cases e3 : decide (1 ≤ i2) with
            | false =>
              rw [e3] at q
              exact iteF q
            | true =>
              rw [e3] at q
              refine iteT ⟨_, rfl, _, rfl, i1, i2, rfl, rfl, ?_⟩
              have q : Q (.bl (decide (Nat.gcd i1.natAbs i2.natAbs = 1))) H := q
              have e : decide (V.int ((Nat.gcd i1.natAbs i2.natAbs : Nat) : Int) = V.int 1) = decide (Nat.gcd i1.natAbs i2.natAbs = 1) := by
                by_cases z : Nat.gcd i1.natAbs i2.natAbs = 1
                · rw [decide_eq_true z]
                  exact decide_eq_true (show V.int ((Nat.gcd i1.natAbs i2.natAbs : Nat) : Int) = V.int 1 by rw [z]; rfl)
                · rw [decide_eq_false z, decide_eq_false fun y => z (by have := V.int.inj y; omega)]
              rw [← e] at q
              exact q
def spLowest : Sp := fun vs H Q _ => ∃ (t b : Int), vs = [.int t, .int b] ∧ 0 < b ∧ b.natAbs < 2 ^ 8000 ∧ ∀ T, H T = none → Q (.ref T) (upd H T (.tup [.int (low t b).1, .int (low t b).2]))
theorem gcd_fits {t b : Int} (h : 0 < b) (hb : b.natAbs < 2 ^ 8000) : CDivW t (Nat.gcd t.natAbs b.natAbs : Nat) ∧ CDivW b (Nat.gcd t.natAbs b.natAbs : Nat) := by
  have h0 : 0 < b.natAbs := by omega
  have g0 : 0 < Nat.gcd t.natAbs b.natAbs := Nat.gcd_pos_of_pos_right _ h0
  have g1 : Nat.gcd t.natAbs b.natAbs < 2 ^ 8000 := Nat.lt_of_le_of_lt (Nat.gcd_le_right _ h0) hb
  have c : ∀ i : Int, CDivW i (Nat.gcd t.natAbs b.natAbs : Nat) := fun i => wide_div (b := 8000) (by omega) (by rw [Int.natAbs_natCast]; exact g1) (by decide) (by decide)
  exact ⟨c t, c b⟩
/-- the law's own lowest terms, by Euclid -/
theorem scLow : FnScope ["_law_top", "_law_bottom", "_law_one", "_law_other"] ["_law_top", "_law_bottom"] (defScope s__law_low) := ⟨rfl, rfl, rfl, by decide +kernel, rfl, by decide +kernel, by decide +kernel⟩
theorem gcd_step {a b : Int} (ha : 0 ≤ a) (hb : 0 < b) : Nat.gcd b.natAbs (a % b).natAbs = Nat.gcd a.natAbs b.natAbs := by
  have e : (a % b).natAbs = a.natAbs % b.natAbs := by
    obtain ⟨m, rfl⟩ := Int.eq_ofNat_of_zero_le ha
    obtain ⟨n, rfl⟩ := Int.eq_ofNat_of_zero_le (Int.le_of_lt hb)
    rfl
  rw [e, Nat.gcd_comm a.natAbs b.natAbs, Nat.gcd_rec b.natAbs a.natAbs, Nat.gcd_comm]
theorem ok_low {f : Addr} {fd : FuncData} (F : Fun K "_law_low" "_law_low" s__law_low f fd) (mi : mg "int" = none) (ma : mg "abs" = none) : FnOk P w K mg base CX0 1 f fd ["_law_top", "_law_bottom"] spLowest := by
  refine F.ok scLow (fun vs H Q E h => ?_) (fun cdv A outer s H vs Q E hr h => ?_)
  · obtain ⟨t, b, rfl, _⟩ := h
    rfl
  · obtain ⟨t, b, rfl, hb, hs, q⟩ := h
    have nd := scLow.nd
    refine ⟨_, pss_cons (ps_par (i := 2) (j := 3) (by rfl) nd rfl rfl (by decide) rfl rfl (pa_cons (pe_callB call_abs (by rfl) ma (by decide +kernel) (pa_cons (pv 0) pa_nil)) (pa_cons (pv 1) pa_nil)) (by rfl))
      (pss_cons (ps_while PassesOwn.never (pt_cmpR op_gt (pv 3) pe_int (nomark _))
        (pss_one (ps_par (i := 2) (j := 3) (by rfl) nd rfl rfl (by decide) rfl rfl (pa_cons (pv 3) (pa_cons (pe_op op_mod (pe_callTy call_int1 (by rfl) mi (by decide +kernel) (pa_cons (pv 2) pa_nil)) (pv 3)) pa_nil)) (by rfl))))
      (pss_one (ps_ret (pe_tup (pa_cons (pe_op op_fdivW (pv 0) (pv 2)) (pa_cons (pe_op op_fdivW (pv 1) (pv 2)) pa_nil)))))), ?_⟩
    have ab : (if t < 0 then -t else t) = (t.natAbs : Int) := by
      by_cases z : t < 0
      · rw [if_pos z]; omega
      · rw [if_neg z]; omega
    refine ⟨_, rfl, t, rfl, _, rfl, _, _, rfl, ?_⟩
    refine while_by (fun σ G => G = H ∧ ∃ x y : Int, σ = [some (.int t), some (.int b), some (.int x), some (.int y)] ∧ 0 ≤ x ∧ 0 ≤ y ∧ Nat.gcd x.natAbs y.natAbs = Nat.gcd t.natAbs b.natAbs)
      (fun σ _ => match σ with | [_, _, _, some (.int y)] => y.natAbs | _ => 0) ⟨rfl, _, _, rfl, by rw [ab]; omega, by omega, by rw [ab]; rfl⟩ ?_ ?_
    · rintro σ G ⟨rfl, x, y, rfl, hx, hy, hg⟩
      refine ⟨_, rfl, _, _, rfl, rfl, _, rfl, ?_⟩
      refine ite2 (fun hlt => ?_) (fun hge => ?_)
      · have hlt : (0 : Int) < y := of_decide_eq_true hlt
        refine ⟨_, rfl, _, rfl, .inl ⟨_, rfl, _, rfl, _, _, rfl, rfl, hlt, _, _, rfl, ⟨rfl, y, x % y, rfl, hy, Int.emod_nonneg _ (by omega), (gcd_step hx hlt).trans hg⟩, ?_⟩⟩
        show (x % y).natAbs < y.natAbs
        have h1 := Int.emod_lt_of_pos x hlt
        have h2 := Int.emod_nonneg x (show y ≠ 0 by omega)
        omega
      · have hy0 : y = 0 := by
          have z : ¬ (0 : Int) < y := fun z => hge (decide_eq_true z)
          omega
        subst hy0
        have e : x = (Nat.gcd t.natAbs b.natAbs : Nat) := by
          rw [← hg, show (0 : Int).natAbs = 0 from rfl, Nat.gcd_zero_right]
          omega
        obtain ⟨c1, c2⟩ := gcd_fits (t := t) hb hs
        subst e
        refine ⟨_, rfl, _, rfl, _, _, rfl, rfl, c1, _, rfl, _, rfl, _, _, rfl, rfl, c2, small_line (by show 2 ≤ 1000; decide), fun T hT => q T hT⟩
    · rintro σ G Q1 Q2 hq ⟨v, e1, i, j, e2, e3, k, e4, z⟩
      exact ⟨v, e1, i, j, e2, e3, k, e4, hq _ _ z⟩
/-- a pair of numbers in a tuple -/
def PairAt (K : PySem.W.Frag) (H : Hp) (v : V) (s : Int × Int) : Prop := ∃ T, v = .ref T ∧ SqT K H T [.int s.1, .int s.2]
theorem PairAt.same {H H' : Hp} {v : V} {s : Int × Int} (e : Same H H') (h : PairAt K H v s) : PairAt K H' v s := by
  obtain ⟨T, h1, h2⟩ := h
  exact ⟨T, h1, Same.tup e h2⟩
end
theorem low_pos {t b : Int} (h : 0 < b) : 0 < (low t b).2 := by
  have hg : 0 < Nat.gcd t.natAbs b.natAbs := Nat.gcd_pos_of_pos_right _ (by omega)
  have hd : (Nat.gcd t.natAbs b.natAbs : Int) ∣ b := Int.ofNat_dvd_left.mpr (Nat.gcd_dvd_right _ _)
  show 0 < b / (Nat.gcd t.natAbs b.natAbs : Int)
  generalize Nat.gcd t.natAbs b.natAbs = g at hg hd ⊢
  exact Int.ediv_pos_of_pos_of_dvd h (by omega) hd
theorem low_abs {t b : Int} : (low t b).1.natAbs ≤ t.natAbs ∧ (low t b).2.natAbs ≤ b.natAbs := ⟨Int.natAbs_ediv_le_natAbs t _, Int.natAbs_ediv_le_natAbs b _⟩
theorem isRat_form {d : PyData} (h : isRat d = true) : ∃ t b : Int, d = .tuple [.int t, .int b] ∧ 1 ≤ b := by
  cases d with
  | tuple ds =>
    match ds, h with
    | [a, b], h =>
      have h : (whole a && (whole b && (decide (1 ≤ intOf b) && decide (Nat.gcd (intOf a).natAbs (intOf b).natAbs = 1)))) = true := h
      simp only [Bool.and_eq_true, decide_eq_true_eq] at h
      obtain ⟨h1, h2, h3, _⟩ := h
      obtain ⟨t, rfl⟩ := whole_int h1
      obtain ⟨c, rfl⟩ := whole_int h2
      exact ⟨t, c, rfl, h3⟩
    | [], h => cases h
    | [_], h => cases h
    | _ :: _ :: _ :: _, h => cases h
  | _ => cases h
/-- all but p is still there -/
def Ex (p : Addr) (H H' : Hp) : Prop := ∀ b o, b ≠ p → H b = some o → H' b = some o
theorem Ex.refl {p : Addr} {H : Hp} : Ex p H H := fun _ _ _ e => e
theorem Ex.trans {p : Addr} {H H1 H2 : Hp} (a : Ex p H H1) (b : Ex p H1 H2) : Ex p H H2 := fun c o n e => b c o n (a c o n e)
theorem Ex.of {p : Addr} {H H' : Hp} (a : But p H H') : Ex p H H' := fun b o n e => (a b n).trans e
theorem Ex.sm {p : Addr} {H H' : Hp} (a : Same H H') : Ex p H H' := fun b o _ e => a b o e
theorem Src.on {H H' : Hp} {p q : Addr} {cells : List Int} (s : Src H p q cells) (e : Same H H') : Src H' p q cells := by
  obtain ⟨⟨i, c, sd, n, h1, h2, h3⟩, h4, h5, h6⟩ := s
  exact ⟨⟨i, c, sd, n, e _ _ h1, h2, h3⟩, e _ _ h4, h5, h6⟩
theorem Src.at' {H : Hp} {p q : Addr} {cells : List Int} (h : Src H p q cells) : ∃ o, H p = some o := let ⟨_, _, _, _, e, _⟩ := h.ex; ⟨_, e⟩
theorem low_rat {t b : Int} (h : 0 < b) : isRat (.tuple [.int (low t b).1, .int (low t b).2]) = true := by
  have hg : 0 < Nat.gcd t.natAbs b.natAbs := Nat.gcd_pos_of_pos_right _ (by omega)
  have d1 : (Nat.gcd t.natAbs b.natAbs : Int) ∣ t := Int.ofNat_dvd_left.mpr (Nat.gcd_dvd_left _ _)
  have d2 : (Nat.gcd t.natAbs b.natAbs : Int) ∣ b := Int.ofNat_dvd_left.mpr (Nat.gcd_dvd_right _ _)
  have e1 : (low t b).1.natAbs = t.natAbs / Nat.gcd t.natAbs b.natAbs := by
    show (t / (Nat.gcd t.natAbs b.natAbs : Int)).natAbs = _
    rw [Int.natAbs_ediv_of_dvd d1, Int.natAbs_natCast]
  have e2 : (low t b).2.natAbs = b.natAbs / Nat.gcd t.natAbs b.natAbs := by
    show (b / (Nat.gcd t.natAbs b.natAbs : Int)).natAbs = _
    rw [Int.natAbs_ediv_of_dvd d2, Int.natAbs_natCast]
  show (true && (true && (decide (1 ≤ (low t b).2) && decide (Nat.gcd (low t b).1.natAbs (low t b).2.natAbs = 1)))) = true
  have g1 : Nat.gcd (low t b).1.natAbs (low t b).2.natAbs = 1 := by
    rw [e1, e2]
    exact Nat.gcd_div_gcd_div_gcd_of_pos_right (by omega)
  rw [decide_eq_true (show 1 ≤ (low t b).2 by have := low_pos (t := t) h; omega), decide_eq_true g1]
  rfl
def ratT (s : Int × Int) : PyData := .tuple [.int s.1, .int s.2]
/-- a pair of numbers in a tuple of its own, not at p -/
def PairF (p : Addr) (H : Hp) (v : V) (s : Int × Int) : Prop := ∃ T, v = .ref T ∧ T ≠ p ∧ H T = some (.tup [.int s.1, .int s.2])
theorem PairF.ex {p : Addr} {H H' : Hp} {v : V} {s : Int × Int} (e : Ex p H H') (h : PairF p H v s) : PairF p H' v s := by
  obtain ⟨T, h1, h2, h3⟩ := h
  exact ⟨T, h1, h2, e _ _ h2 h3⟩
theorem PairF.at_ {p : Addr} {K : PySem.W.Frag} {H : Hp} {v : V} {s : Int × Int} (h : PairF p H v s) : PairAt K H v s := by
  obtain ⟨T, h1, h2, h3⟩ := h
  exact ⟨T, h1, SqT.of h3⟩
def Good (s : Int × Int) : Prop := isRat (ratT s) = true ∧ s.1.natAbs < 2 ^ 60 ∧ s.2.natAbs < 2 ^ 60 ∧ 0 < s.2
theorem good_of {s : Int × Int} (h : isRat (ratT s) = true) (b : s.1.natAbs < 10 ^ 18 + 1 ∧ s.2.natAbs < 10 ^ 18 + 1) : Good s := by
  have e : (10 : Nat) ^ 18 + 1 ≤ 2 ^ 60 := by decide
  obtain ⟨x, y, z, hz⟩ := isRat_form h
  have e2 : s.2 = y := by
    unfold ratT at z
    injection z with z
    injection z with _ z
    injection z with z _
    injection z
  exact ⟨h, Nat.lt_of_lt_of_le b.1 e, Nat.lt_of_lt_of_le b.2 e, by omega⟩
/-- pairs of their own, not at p -/
def PFs (p : Addr) (H : Hp) : List V → List (Int × Int) → Prop := Paired (PairF p H)
theorem PFs.ex {p : Addr} {H H' : Hp} (e : Ex p H H') : ∀ {xs : List V} {ps : List (Int × Int)}, PFs p H xs ps → PFs p H' xs ps
  | _, _, .nil => .nil
  | _, _, .cons h t => .cons (PairF.ex e h) (PFs.ex e t)
theorem PFs.len {p : Addr} {H : Hp} : ∀ {xs : List V} {ps : List (Int × Int)}, PFs p H xs ps → xs.length = ps.length
  | _, _, .nil => rfl
  | _, _, .cons _ t => congrArg (· + 1) (PFs.len t)
theorem PFs.get {p : Addr} {H : Hp} : ∀ {xs : List V} {ps : List (Int × Int)} {i : Nat} {x : V}, PFs p H xs ps → xs[i]? = some x → ∃ s, ps[i]? = some s ∧ PairF p H x s
  | _, _, 0, _, .cons h _, e => by
    cases e
    exact ⟨_, rfl, h⟩
  | _, _, i + 1, _, .cons _ t, e => PFs.get (i := i) t e
theorem PairF.dp {p : Addr} {K : PySem.W.Frag} {H : Hp} {x : V} {s : Int × Int} (h : PairF p H x s) : Dp K H x (ratT s) := by
  obtain ⟨T, rfl, _, h⟩ := h
  exact .tup (SqT.of h) (.cons (.int _) (.cons (.int _) .nil))
theorem Src.off {p q D : Addr} {cells : List Int} {H : Hp} {o : HO} (h : Src H p q cells) (n1 : D ≠ p) (n2 : D ≠ q) : Src (upd H D o) p q cells := by
  obtain ⟨⟨i, c, sd, n, h1, h2, h3⟩, h4, h5, h6⟩ := h
  exact ⟨⟨i, c, sd, n, by rw [upd_ne n1.symm]; exact h1, h2, h3⟩, by rw [upd_ne n2.symm]; exact h4, h5, h6⟩
theorem PairF.off {p D : Addr} {H : Hp} {o : HO} {xs : List V} {v : V} {s : Int × Int} (hD : H D = some (.lst xs)) (h : PairF p H v s) : PairF p (upd H D o) v s := by
  obtain ⟨T, h1, h2, h3⟩ := h
  refine ⟨T, h1, h2, ?_⟩
  rw [upd_ne]
  · exact h3
  · intro e
    rw [e, hD] at h3
    cases h3
theorem PFs.off {p D : Addr} {H : Hp} {o : HO} {ys : List V} (hD : H D = some (.lst ys)) : ∀ {xs : List V} {ps : List (Int × Int)}, PFs p H xs ps → PFs p (upd H D o) xs ps
  | _, _, .nil => .nil
  | _, _, .cons h t => .cons (PairF.off hD h) (PFs.off hD t)
end Lw

set_option maxRecDepth 100000
set_option linter.unusedVariables false
namespace Lw
open PySem PySem.Spec PyProof.Rows L2 VG
section
variable {P : Program} {w : World} {K : PySem.W.Frag} {mg : Str → Option Value} {base : Heap}
/-- a drawn ratio of at least 0 -/
def spLen : Sp := fun vs H Q _ => ∃ (p q : Addr) (cells : List Int), vs = [.ref p] ∧ Src H p q cells ∧ ∀ (v : V) (s : Int × Int) (H' : Hp), PairF p H' v s → Good s → Src H' p q cells → Ex p H H' → Q v H'
theorem scLen : FnScope ["_law_src", "_law_way"] ["_law_src"] (defScope s__law_length) := ⟨rfl, rfl, rfl, by decide +kernel, rfl, by decide +kernel, by decide +kernel⟩
theorem rat_one (t : Int) : isRat (ratT (t, 1)) = true := by
  have e : Nat.gcd t.natAbs (1 : Int).natAbs = 1 := Nat.gcd_one_right _
  show (true && (true && (decide ((1 : Int) ≤ 1) && decide (Nat.gcd t.natAbs (1 : Int).natAbs = 1)))) = true
  rw [decide_eq_true e]
  rfl
theorem ok_len {f fD fL : Addr} {fd fdD fdL : FuncData} (F : Fun K "_law_length" "_law_length" s__law_length f fd) (GD : FnOk P w K mg base CX0 1 fD fdD ["_law_src", "_law_many"] spDraw) (mD : mg "_law_draw" = some (.ref fD)) (kD : PySem.W.keepIn K (.ref fD) = true) (bD : Binds K fdD ["_law_src", "_law_many"] [])
    (GL : FnOk P w K mg base CX0 1 fL fdL ["_law_top", "_law_bottom"] spLowest) (mL : mg "_law_low" = some (.ref fL)) (kL : PySem.W.keepIn K (.ref fL) = true) (bL : Binds K fdL ["_law_top", "_law_bottom"] []) : FnOk P w K mg base CX0 2 f fd ["_law_src"] spLen := by
  refine F.ok scLen (fun vs H Q E h => ?_) (fun cdv A outer s H vs Q E hr h => ?_)
  · obtain ⟨p, q, cells, rfl, _⟩ := h
    rfl
  · obtain ⟨p, q, cells, rfl, hS, k⟩ := h
    have nd := scLen.nd
    refine ⟨_, pss_cons (ps_set (i := 1) nd rfl (Or.inl rfl) (pe_call GD hr (by rfl) mD kD bD .nil pass0 (pa_cons (pv 0) (pa_cons pe_int pa_nil))))
      (pss_cons (ps_if (pt_cmpR op_lt (pv 1) pe_int (nomark _)) (pss_one (ps_ret (pe_tup (pa_cons (pe_call GD hr (by rfl) mD kD bD .nil pass0 (pa_cons (pv 0) (pa_cons pe_int pa_nil))) (pa_cons pe_int pa_nil))))) pss_nil)
      (pss_cons (ps_if (pt_cmpR op_lt (pv 1) pe_int (nomark _)) (pss_one (ps_ret (pe_call GL hr (by rfl) mL kL bL .nil pass0 (pa_cons (pe_call GD hr (by rfl) mD kD bD .nil pass0 (pa_cons (pv 0) (pa_cons pe_int pa_nil)))
          (pa_cons (pe_op op_add pe_int (pe_call GD hr (by rfl) mD kD bD .nil pass0 (pa_cons (pv 0) (pa_cons pe_int pa_nil)))) pa_nil))))) pss_nil)
      (pss_one (ps_ret (pe_tup (pa_cons (pe_call GD hr (by rfl) mD kD bD .nil pass0 (pa_cons (pv 0) (pa_cons (pe_op op_pow pe_int pe_int) pa_nil))) (pa_cons pe_int pa_nil))))))), ?_⟩
    have two : (2 : Nat) ≤ sizeLine := by decide
    have fin : ∀ {t b : Int} {G : Hp} {T : Addr}, isRat (ratT (t, b)) = true → t.natAbs < 10 ^ 18 + 1 → b.natAbs < 10 ^ 18 + 1 → Src G p q cells → But p H G → G T = none → Q (.ref T) (upd G T (.tup [.int t, .int b])) := fun {t b G T} hr ht hb sG bG hT => by
      have nT : T ≠ p := fun z => by
        obtain ⟨u, hu⟩ := sG.at'
        rw [z, hu] at hT
        cases hT
      exact k _ (t, b) _ ⟨T, rfl, nT, upd_same⟩ (good_of hr ⟨ht, hb⟩) (sG.on (same_upd hT)) ((Ex.of bG).trans (Ex.sm (same_upd hT)))
    refine ⟨_, rfl, p, q, cells, 10, rfl, hS, by decide, by decide, fun d1 G1 a1 c1 S1 B1 => ?_⟩
    refine ⟨_, rfl, _, _, rfl, rfl, _, rfl, ite2 (fun _ => ?_) (fun _ => ?_)⟩
    · refine ⟨_, rfl, p, q, cells, 6, rfl, S1, by decide, by decide, fun d2 G2 a2 c2 S2 B2 => ⟨two, fun T hT => fin (rat_one _) (by omega) (by decide) S2 (B1.trans B2) hT⟩⟩
    refine ⟨_, rfl, _, _, rfl, rfl, _, rfl, ite2 (fun _ => ?_) (fun _ => ?_)⟩
    · refine ⟨_, rfl, p, q, cells, 13, rfl, S1, by decide, by decide, fun d2 G2 a2 c2 S2 B2 => ?_⟩
      refine ⟨_, rfl, p, q, cells, 5, rfl, S2, by decide, by decide, fun d3 G3 a3 c3 S3 B3 => ?_⟩
      have l := low_abs (t := d2) (b := 1 + d3)
      refine ⟨_, _, rfl, rfl, _, _, rfl, by omega, Nat.lt_of_lt_of_le (show (1 + d3).natAbs < 10 by omega) (Nat.le_of_lt (by decide +kernel)), fun T hT => fin (low_rat (by omega)) (Nat.lt_of_le_of_lt l.1 (by omega)) (Nat.lt_of_le_of_lt l.2 (by omega)) S3 ((B1.trans B2).trans B3) hT⟩
    · refine ⟨_, rfl, _, _, rfl, rfl, ⟨by decide, by decide, by decide⟩, p, q, cells, 10 ^ 6, rfl, S1, by decide, by decide, fun d2 G2 a2 c2 S2 B2 => ⟨two, fun T hT => fin (rat_one _) (by omega) (by decide) S2 (B1.trans B2) hT⟩⟩
/-- data as a list, where they are a tuple -/
def listD : PyData → PyData
  | .tuple ds => .list ds
  | d => d
def isSeq : PyData → Bool
  | .tuple _ => true
  | .list _ => true
  | _ => false
def lenD : PyData → Nat
  | .tuple ds => ds.length
  | .list ds => ds.length
  | _ => 0
theorem kit2 {a : String} {b c r : Bool} (h1 : kitB a "list" = some b) (h2 : kitB a "tuple" = some c) (hr : (b || c) = r) : PySem.W.kitAny K (.type a) [.type "list", .type "tuple"] = some r := by
  refine kitAny_cons (kit_ty h1) (fun hb => kitAny_cons (kit_ty h2) (fun hc => ?_) (fun hc => ?_)) (fun hb => ?_)
  · rw [← hr, hb, hc]; exact kitAny_nil
  · rw [← hr, hb, hc]; rfl
  · rw [← hr, hb]; rfl
theorem kit_seq : ∀ {v : V} {d : PyData} {H : Hp}, Dp K H v d → PySem.W.kitAny K (.type (tyN d)) [.type "list", .type "tuple"] = some (isSeq d)
  | _, _, _, .non => kit2 (a := "NoneType") (b := false) (c := false) (by decide +kernel) (by decide +kernel) rfl
  | _, _, _, .bl _ => kit2 (a := "bool") (b := false) (c := false) (by decide +kernel) (by decide +kernel) rfl
  | _, _, _, .int _ => kit2 (a := "int") (b := false) (c := false) (by decide +kernel) (by decide +kernel) rfl
  | _, _, _, .str _ => kit2 (a := "str") (b := false) (c := false) (by decide +kernel) (by decide +kernel) rfl
  | _, _, _, .lst _ _ => kit2 (a := "list") (b := true) (c := false) (by decide +kernel) (by decide +kernel) rfl
  | _, _, _, .tup _ _ => kit2 (a := "tuple") (b := false) (c := true) (by decide +kernel) (by decide +kernel) rfl
theorem clsv2 : Paired ClsV [.ty "list", .ty "tuple"] [.type "list", .type "tuple"] := .cons (.ty "list") (.cons (.ty "tuple") .nil)
def spListed (K : PySem.W.Frag) (n : Nat) : Sp := fun vs H Q _ => ∃ (x : V) (d : PyData), vs = [x] ∧ Dp K H x d ∧ fit (n + 1) d = true ∧ ∀ (y : V) (H' : Hp), Same H H' → Dp K (newer H H') y (listD d) → Q y H'
theorem scListed : FnScope ["value", "item"] ["value"] (defScope s_listed) := ⟨rfl, rfl, rfl, by decide +kernel, rfl, by decide +kernel, by decide +kernel⟩
theorem upd_none {H : Hp} {T b : Addr} {o : HO} (h : upd H T o b = none) : H b = none := by
  by_cases e : b = T
  · rw [e, upd_same] at h
    cases h
  · rw [upd_ne e] at h
    exact h
theorem ok_listed {n : Nat} {f fC : Addr} {fd fdC : FuncData} (F : Fun K "listed" "listed" s_listed f fd) (T : NmC mg) (GC : FnOk P w K mg base CX0 (n + 1) fC fdC ["value"] (spCopy K n)) (mC : mg "copied" = some (.ref fC)) (kC : PySem.W.keepIn K (.ref fC) = true) (bC : Binds K fdC ["value"] []) :
    FnOk P w K mg base CX0 (n + 2) f fd ["value"] (spListed K n) := by
  refine F.ok scListed (fun vs H Q E h => ?_) (fun cdv A outer s H vs Q E hr h => ?_)
  · obtain ⟨x, d, rfl, _⟩ := h
    rfl
  · obtain ⟨x, d, rfl, hx, hf, q⟩ := h
    have nd := scListed.nd
    have two : (2 : Nat) ≤ sizeLine := by decide
    cases hq : isSeq d with
    | false =>
      refine ⟨_, pss_cons (ps_if (pt_val (pe_callB call_isiT (by rfl) T.isi (by decide +kernel) (pa_cons (pv 0) (pa_cons (pe_tup (pa_cons (pe_bltn (v := .ty "list") (by rfl) T.list (by decide +kernel) rfl) (pa_cons (pe_bltn (v := .ty "tuple") (by rfl) T.tup (by decide +kernel) rfl) pa_nil))) pa_nil))))
          (pss_one (ps_ret (pe_lc (own := [("item", 1)]) (g := gName 1) (tt := tYes) rfl nd (pi_list (pv 0)) (blkOk_by (own := [("item", 1)]) (N := ["value", "item"]) (sc := defScope s_listed) (by decide +kernel)) (fun _ _ _ _ _ => pg_name (i := 1) nd rfl (Or.inl rfl)) (fun _ _ _ _ _ => pts_nil)
            (fun _ _ _ _ _ => pe_call GC hr (by rfl) mC kC bC .nil pass0 (pa_cons (pv 1) pa_nil))))) pss_nil)
        (pss_one (ps_ret (pv 0))), ?_⟩
      refine ⟨_, rfl, two, fun T hT => ⟨_, T, _, _, _, _, rfl, upd_same, clsv2, Dp.tyx (Dp.same (same_upd hT) _ _ hx), kit_seq hx, _, rfl, ?_⟩⟩
      rw [hq]
      refine iteF ⟨_, rfl, q _ _ (same_upd hT) ?_⟩
      have e : listD d = d := by cases d <;> first | rfl | cases hq
      rw [e]
      exact dp_newer hx (fun ds z => by rw [z] at hq; cases hq) (fun ds z => by rw [z] at hq; cases hq)
    | true =>
      cases hx with
      | non => cases hq
      | bl _ => cases hq
      | int _ => cases hq
      | str _ => cases hq
      | @lst a xs ds hs hd =>
        refine ⟨_, pss_cons (ps_if (pt_val (pe_callB call_isiT (by rfl) T.isi (by decide +kernel) (pa_cons (pv 0) (pa_cons (pe_tup (pa_cons (pe_bltn (v := .ty "list") (by rfl) T.list (by decide +kernel) rfl) (pa_cons (pe_bltn (v := .ty "tuple") (by rfl) T.tup (by decide +kernel) rfl) pa_nil))) pa_nil))))
            (pss_one (ps_ret (pe_lc (own := [("item", 1)]) (g := gName 1) (tt := tYes) rfl nd (pi_list (pv 0)) (blkOk_by (own := [("item", 1)]) (N := ["value", "item"]) (sc := defScope s_listed) (by decide +kernel)) (fun _ _ _ _ _ => pg_name (i := 1) nd rfl (Or.inl rfl)) (fun _ _ _ _ _ => pts_nil)
              (fun _ _ _ _ _ => pe_call GC hr (by rfl) mC kC bC .nil pass0 (pa_cons (pv 1) pa_nil))))) pss_nil)
          (pss_one (ps_ret (pv 0))), ?_⟩
        refine ⟨_, rfl, two, fun T hT => ⟨_, T, _, _, _, _, rfl, upd_same, clsv2, Dp.tyx (Dp.same (same_upd hT) _ _ (Dp.lst hs hd)), kit_seq (Dp.lst hs hd), _, rfl, iteT ?_⟩⟩
        have mT := same_upd (o := .tup [.ty "list", .ty "tuple"]) hT
        obtain ⟨hw, hl⟩ : ds.length ≤ 1000 ∧ ∀ d ∈ ds, fit n d = true := by
          obtain ⟨h1, h2⟩ := Bool.and_eq_true_iff.mp (show (decide (ds.length ≤ 1000) && ds.all (fit n)) = true from hf)
          exact ⟨of_decide_eq_true h1, List.all_eq_true.mp h2⟩
        have hd1 := DpAll.same mT _ _ hd
        refine ⟨_, rfl, a, rfl, ⟨_, mT.seq hs⟩, fun D hD => lc_list (K := K) (a := a) (xs := xs) (Copying K _ D ds) (Copying.start hD) (fun i G _ c => c.same.seq (mT.seq hs)) (fun i y G hy c => ?_) (fun G c => ?_)⟩
        · obtain ⟨e, he, hye⟩ := DpAll.at' hd1 hy
          refine ⟨rfl, y, rfl, y, e, rfl, Dp.same c.same e y hye, hl e (List.mem_of_getElem? he), fun y' G' sm hn => ?_⟩
          obtain ⟨acc, e1, e2, e3⟩ := c.more hD he sm hn
          have lt : i < ds.length := (List.getElem?_eq_some_iff.mp he).1
          exact ⟨acc, e1, by rw [e2]; exact Nat.lt_of_lt_of_le (Nat.lt_of_lt_of_le lt hw) (by decide), e3⟩
        · rw [DpAll.len hd] at c
          obtain ⟨acc, e1, e2⟩ := c.all hD
          have sub := newer_mono (H := upd H T (.tup [.ty "list", .ty "tuple"])) (H' := G) (G := H) (G' := G) (fun b z => upd_none z) fun b z o e => e
          exact q _ G (mT.trans c.same) (.lst (SqL.of (sub _ _ (by rw [newer_at hD]; exact e1))) (DpAll.same sub _ _ e2))
      | @tup a xs ds hs hd =>
        refine ⟨_, pss_cons (ps_if (pt_val (pe_callB call_isiT (by rfl) T.isi (by decide +kernel) (pa_cons (pv 0) (pa_cons (pe_tup (pa_cons (pe_bltn (v := .ty "list") (by rfl) T.list (by decide +kernel) rfl) (pa_cons (pe_bltn (v := .ty "tuple") (by rfl) T.tup (by decide +kernel) rfl) pa_nil))) pa_nil))))
            (pss_one (ps_ret (pe_lc (own := [("item", 1)]) (g := gName 1) (tt := tYes) rfl nd (pi_tup (pv 0)) (blkOk_by (own := [("item", 1)]) (N := ["value", "item"]) (sc := defScope s_listed) (by decide +kernel)) (fun _ _ _ _ _ => pg_name (i := 1) nd rfl (Or.inl rfl)) (fun _ _ _ _ _ => pts_nil)
              (fun _ _ _ _ _ => pe_call GC hr (by rfl) mC kC bC .nil pass0 (pa_cons (pv 1) pa_nil))))) pss_nil)
          (pss_one (ps_ret (pv 0))), ?_⟩
        refine ⟨_, rfl, two, fun T hT => ⟨_, T, _, _, _, _, rfl, upd_same, clsv2, Dp.tyx (Dp.same (same_upd hT) _ _ (Dp.tup hs hd)), kit_seq (Dp.tup hs hd), _, rfl, iteT ?_⟩⟩
        have mT := same_upd (o := .tup [.ty "list", .ty "tuple"]) hT
        obtain ⟨hw, hl⟩ : ds.length ≤ 1000 ∧ ∀ d ∈ ds, fit n d = true := by
          obtain ⟨h1, h2⟩ := Bool.and_eq_true_iff.mp (show (decide (ds.length ≤ 1000) && ds.all (fit n)) = true from hf)
          exact ⟨of_decide_eq_true h1, List.all_eq_true.mp h2⟩
        have hd1 := DpAll.same mT _ _ hd
        refine ⟨_, rfl, a, rfl, ⟨_, Same.tup mT hs⟩, fun D hD => lc_tup (K := K) (a := a) (xs := xs) (Copying K _ D ds) (Copying.start hD) (fun i G _ c => Same.tup c.same (Same.tup mT hs)) (fun i y G hy c => ?_) (fun G c => ?_)⟩
        · obtain ⟨e, he, hye⟩ := DpAll.at' hd1 hy
          refine ⟨rfl, y, rfl, y, e, rfl, Dp.same c.same e y hye, hl e (List.mem_of_getElem? he), fun y' G' sm hn => ?_⟩
          obtain ⟨acc, e1, e2, e3⟩ := c.more hD he sm hn
          have lt : i < ds.length := (List.getElem?_eq_some_iff.mp he).1
          exact ⟨acc, e1, by rw [e2]; exact Nat.lt_of_lt_of_le (Nat.lt_of_lt_of_le lt hw) (by decide), e3⟩
        · rw [DpAll.len hd] at c
          obtain ⟨acc, e1, e2⟩ := c.all hD
          have sub := newer_mono (H := upd H T (.tup [.ty "list", .ty "tuple"])) (H' := G) (G := H) (G' := G) (fun b z => upd_none z) fun b z o e => e
          exact q _ G (mT.trans c.same) (.lst (SqL.of (sub _ _ (by rw [newer_at hD]; exact e1))) (DpAll.same sub _ _ e2))
def spLenOf (K : PySem.W.Frag) : Sp := fun vs H Q _ => ∃ (x : V) (d : PyData), vs = [x] ∧ Dp K H x d ∧ ∀ H', Same H H' → Q (.int (lenD d)) H'
theorem scLenOf : FnScope ["value"] ["value"] (defScope s_length_of) := ⟨rfl, rfl, rfl, by decide +kernel, rfl, by decide +kernel, by decide +kernel⟩
theorem ok_lenOf {f : Addr} {fd : FuncData} (F : Fun K "length_of" "length_of" s_length_of f fd) (T : NmC mg) (ln : mg "len" = none) : FnOk P w K mg base CX0 1 f fd ["value"] (spLenOf K) := by
  refine F.ok scLenOf (fun vs H Q E h => ?_) (fun cdv A outer s H vs Q E hr h => ?_)
  · obtain ⟨x, d, rfl, _⟩ := h
    rfl
  · obtain ⟨x, d, rfl, hx, q⟩ := h
    have two : (2 : Nat) ≤ sizeLine := by decide
    refine ⟨_, pss_one (ps_ret (pe_ifExp (pt_val (pe_callB call_isiT (by rfl) T.isi (by decide +kernel) (pa_cons (pv 0) (pa_cons (pe_tup (pa_cons (pe_bltn (v := .ty "list") (by rfl) T.list (by decide +kernel) rfl) (pa_cons (pe_bltn (v := .ty "tuple") (by rfl) T.tup (by decide +kernel) rfl) pa_nil))) pa_nil))))
      (pe_callB call_len_seq (by rfl) ln PySem.boot_len (pa_cons (pv 0) pa_nil)) pe_int)), ?_⟩
    refine ⟨_, rfl, two, fun T hT => ⟨_, T, _, _, _, _, rfl, upd_same, clsv2, Dp.tyx (Dp.same (same_upd hT) _ _ hx), kit_seq hx, _, rfl, ?_⟩⟩
    have mT := same_upd (o := .tup [.ty "list", .ty "tuple"]) hT
    cases hx with
    | non => exact iteF (q _ mT)
    | bl _ => exact iteF (q _ mT)
    | int _ => exact iteF (q _ mT)
    | str _ => exact iteF (q _ mT)
    | @lst a xs ds hs hd =>
      have e := DpAll.len hd
      refine iteT ⟨_, rfl, a, xs, rfl, .inl (mT.seq hs), ?_⟩
      rw [e]
      exact q _ mT
    | @tup a xs ds hs hd =>
      have e := DpAll.len hd
      refine iteT ⟨_, rfl, a, xs, rfl, .inr (Same.tup mT hs), ?_⟩
      rw [e]
      exact q _ mT
end
end Lw

set_option maxRecDepth 100000
set_option linter.unusedVariables false
namespace Lw
open PySem PySem.Spec PyProof.Rows L2 VG
/-! ### the class of means -/
abbrev mInit : Stmt := inClass s_Mean 0
abbrev mWeights : Stmt := inClass s_Mean 1
abbrev mSums : Stmt := inClass s_Mean 2
abbrev mVoid : Stmt := inClass s_Mean 5
abbrev mEq : Stmt := inClass s_Mean 6
abbrev mRepr : Stmt := inClass s_Mean 7
theorem kws : ¬ (("_weights" : Str) = "_sums") := by decide +kernel
def flds (x y : V) : List (Str × V) := putF "_sums" y (putF "_weights" x [])
theorem flds_w (x y : V) : (flds x y).lookup ("_weights" : Str) = some x := by
  unfold flds
  rw [lookup_putF, if_neg kws, lookup_putF, if_pos rfl]
theorem flds_s (x y : V) : (flds x y).lookup ("_sums" : Str) = some y := by
  unfold flds
  rw [lookup_putF, if_pos rfl]
theorem flds_no (x y : V) {m : Str} (h1 : ¬ m = "_sums") (h2 : ¬ m = "_weights") : (flds x y).lookup m = none := by
  unfold flds
  rw [lookup_putF, if_neg h1, lookup_putF, if_neg h2]
  all_goals rfl
structure TxM (K : PySem.W.Frag) (C : Addr) : Prop where
  cl : Cls K C
  nW : NoAttr K C "_weights"
  nS : NoAttr K C "_sums"
/-- a mean at p, of the data d, e -/
def MeanAt (K : PySem.W.Frag) (C : Addr) (H : Hp) (p : Addr) (d e : PyData) : Prop := ∃ dx x y, H p = some (.ins C dx (flds x y)) ∧ Dp K H x d ∧ Dp K H y e
theorem MeanAt.same {K : PySem.W.Frag} {C p : Addr} {H H' : Hp} {d e : PyData} (s : Same H H') (h : MeanAt K C H p d e) : MeanAt K C H' p d e := by
  obtain ⟨dx, x, y, h1, h2, h3⟩ := h
  exact ⟨dx, x, y, s _ _ h1, Dp.same s _ _ h2, Dp.same s _ _ h3⟩
section
variable {P : Program} {w : World} {K : PySem.W.Frag} {mg : Str → Option Value} {base : Heap}
def spInitM (K : PySem.W.Frag) (C : Addr) (n : Nat) : Sp := fun vs H Q _ => ∃ (p dx : Addr) (x y : V) (d e : PyData), vs = [.ref p, x, y] ∧ H p = some (.ins C dx []) ∧ Dp K H x d ∧ Dp K H y e ∧ fit (n + 1) d = true ∧ fit (n + 1) e = true ∧
  ∀ (H' : Hp) (x' y' : V), H' p = some (.ins C dx (flds x' y')) → Dp K (newer H H') x' (listD d) → Dp K (newer H H') y' (listD e) → Ex p H H' → Q .non H'
theorem scInitM : FnScope ["self", "weights", "sums"] ["self", "weights", "sums"] (defScope mInit) := ⟨rfl, rfl, rfl, by decide +kernel, rfl, by decide +kernel, by decide +kernel⟩
theorem ok_initM {n : Nat} {f fL C : Addr} {fd fdL : FuncData} (F : Fun K "__init__" "Mean.__init__" mInit f fd) (T : TxM K C) (GL : FnOk P w K mg base CX0 (n + 2) fL fdL ["value"] (spListed K n)) (mL : mg "listed" = some (.ref fL)) (kL : PySem.W.keepIn K (.ref fL) = true) (bL : Binds K fdL ["value"] []) :
    FnOk P w K mg base CX0 (n + 3) f fd ["self", "weights", "sums"] (spInitM K C n) := by
  refine F.ok scInitM (fun vs H Q E h => ?_) (fun cdv A outer s H vs Q E hr h => ?_)
  · obtain ⟨p, dx, x, y, d, e, rfl, _⟩ := h
    rfl
  · obtain ⟨p, dx, x, y, d, e, rfl, hp, hx, hy, fx, fy, q⟩ := h
    refine ⟨_, pss_cons (ps_fld (pv 0) (pe_call GL hr (by rfl) mL kL bL .nil pass0 (pa_cons (pv 1) pa_nil)) rfl) (pss_one (ps_fld (pv 0) (pe_call GL hr (by rfl) mL kL bL .nil pass0 (pa_cons (pv 2) pa_nil)) rfl)), ?_⟩
    refine ⟨_, rfl, x, d, rfl, hx, fx, fun x' H1 m1 hx' => ⟨_, rfl, p, C, dx, [], rfl, m1 _ _ hp, T.cl, T.nW, by show 0 < 1000; decide, ?_⟩⟩
    have hy2 : Dp K (upd H1 p (.ins C dx (putF "_weights" x' []))) y e := Dp.offI (m1 _ _ hp) (Dp.same m1 _ _ hy)
    refine ⟨_, rfl, y, e, rfl, hy2, fy, fun y' H3 m3 hy' => ⟨_, rfl, p, C, dx, _, rfl, m3 _ _ upd_same, T.cl, T.nS, by show 1 < 1000; decide, ?_⟩⟩
    have np : ∀ {b : Addr}, H b = none → b ≠ p := fun {b} h z => by
      rw [z, hp] at h
      cases h
    refine q _ x' y' upd_same (Dp.same (newer_mono (fun b z => z) fun b z o h => ?_) _ _ hx') (Dp.same (newer_mono (fun b z => ?_) fun b z o h => ?_) _ _ hy') fun b o n h => ?_
    · rw [upd_ne (np z)]
      refine m3 _ _ ?_
      rw [upd_ne (np z)]
      exact h
    · cases e : H b with
      | none => rfl
      | some u =>
        by_cases z2 : b = p
        · rw [z2, upd_same] at z
          cases z
        · rw [upd_ne z2, m1 _ _ e] at z
          cases z
    · rw [upd_ne (np z)]
      exact h
    · rw [upd_ne n]
      refine m3 _ _ ?_
      rw [upd_ne n]
      exact m1 _ _ h
/-- a list field, copied -/
def spGet (K : PySem.W.Frag) (C : Addr) (f : Str) (n : Nat) : Sp := fun vs H Q _ => ∃ (p dx : Addr) (x y v : V) (d : PyData), vs = [.ref p] ∧ H p = some (.ins C dx (flds x y)) ∧ (flds x y).lookup f = some v ∧ Dp K H v d ∧ fit n d = true ∧ ∀ (z : V) (H' : Hp), Same H H' → Dp K (newer H H') z d → topL (newer H H') z d → Q z H'
theorem scWeights : FnScope ["self"] ["self"] (defScope mWeights) := ⟨rfl, rfl, rfl, by decide +kernel, rfl, by decide +kernel, by decide +kernel⟩
theorem scSums : FnScope ["self"] ["self"] (defScope mSums) := ⟨rfl, rfl, rfl, by decide +kernel, rfl, by decide +kernel, by decide +kernel⟩
theorem ok_weights {n k : Nat} {f fC C : Addr} {fd fdC : FuncData} (F : Fun K "weights" "Mean.weights" mWeights f fd) (T : TxM K C) (GC : FnOk P w K mg base CX0 k fC fdC ["value"] (spCopyT K n)) (mC : mg "copied" = some (.ref fC)) (kC : PySem.W.keepIn K (.ref fC) = true) (bC : Binds K fdC ["value"] []) :
    FnOk P w K mg base CX0 (k + 1) f fd ["self"] (spGet K C "_weights" n) := by
  refine F.ok scWeights (fun vs H Q E h => ?_) (fun cdv A outer s H vs Q E hr h => ?_)
  · obtain ⟨p, dx, x, y, v, d, rfl, _⟩ := h
    rfl
  · obtain ⟨p, dx, x, y, v, d, rfl, hp, hl, hv, hf, q⟩ := h
    exact ⟨_, pss_one (ps_ret (pe_call GC hr (by rfl) mC kC bC .nil pass0 (pa_cons (pe_fld (pv 0) rfl) pa_nil))), _, rfl, p, C, dx, _, _, rfl, hp, T.cl, T.nW, hl, v, d, rfl, hv, hf, q⟩
theorem ok_sums {n k : Nat} {f fC C : Addr} {fd fdC : FuncData} (F : Fun K "sums" "Mean.sums" mSums f fd) (T : TxM K C) (GC : FnOk P w K mg base CX0 k fC fdC ["value"] (spCopyT K n)) (mC : mg "copied" = some (.ref fC)) (kC : PySem.W.keepIn K (.ref fC) = true) (bC : Binds K fdC ["value"] []) :
    FnOk P w K mg base CX0 (k + 1) f fd ["self"] (spGet K C "_sums" n) := by
  refine F.ok scSums (fun vs H Q E h => ?_) (fun cdv A outer s H vs Q E hr h => ?_)
  · obtain ⟨p, dx, x, y, v, d, rfl, _⟩ := h
    rfl
  · obtain ⟨p, dx, x, y, v, d, rfl, hp, hl, hv, hf, q⟩ := h
    exact ⟨_, pss_one (ps_ret (pe_call GC hr (by rfl) mC kC bC .nil pass0 (pa_cons (pe_fld (pv 0) rfl) pa_nil))), _, rfl, p, C, dx, _, _, rfl, hp, T.cl, T.nS, hl, v, d, rfl, hv, hf, q⟩
/-- whether data are a list of zeros -/
def zeroD (d : PyData) : Bool := isRat d && (match d with | .tuple (.int t :: _) => decide (t = 0) | _ => false)
def voidD : PyData → Bool
  | .list ds => ds.all zeroD
  | _ => false
def spVoid (K : PySem.W.Frag) (C : Addr) : Sp := fun vs H Q _ => ∃ (p dx : Addr) (x y : V) (d : PyData), vs = [.ref p] ∧ H p = some (.ins C dx (flds x y)) ∧ Dp K H x d ∧ fit 2 d = true ∧ (∀ ds, d ≠ .tuple ds) ∧ ∀ H', Same H H' → Q (.bl (voidD d)) H'
theorem scVoid : FnScope ["self", "weight"] ["self"] (defScope mVoid) := ⟨rfl, rfl, rfl, by decide +kernel, rfl, by decide +kernel, by decide +kernel⟩
theorem ok_void {f fR C : Addr} {fd fdR : FuncData} (F : Fun K "is_void" "Mean.is_void" mVoid f fd) (T : TxM K C) (N : NmC mg) (al : mg "all" = none) (GR : FnOk P w K mg base CX0 2 fR fdR ["value"] (spIsRat K)) (mR : mg "is_ratio" = some (.ref fR)) (kR : PySem.W.keepIn K (.ref fR) = true) (bR : Binds K fdR ["value"] []) :
    FnOk P w K mg base CX0 3 f fd ["self"] (spVoid K C) := by
  refine F.ok scVoid (fun vs H Q E h => ?_) (fun cdv A outer s H vs Q E hr h => ?_)
  · obtain ⟨p, dx, x, y, d, rfl, _⟩ := h
    rfl
  · obtain ⟨p, dx, x, y, d, rfl, hp, hx, hf, nt, q⟩ := h
    have nd := scVoid.nd
    refine ⟨_, pss_cons (ps_if (pt_not (pt_val (pe_callB call_isi (by rfl) N.isi (by decide +kernel) (pa_cons (pe_fld (pv 0) rfl) (pa_cons (pe_bltn (v := .ty "list") (by rfl) N.list (by decide +kernel) rfl) pa_nil))))) (pss_one (ps_ret pe_bl)) pss_nil)
      (pss_one (ps_ret (pe_callB (cr_all rfl) (by rfl) al (by decide +kernel) (pa_cons (pe_lc (own := [("weight", 1)]) (g := gName 1) (tt := tYes) rfl nd (pi_list (pe_fld (pv 0) rfl)) (blkOk_by (own := [("weight", 1)]) (N := ["self", "weight"]) (sc := defScope mVoid) (by decide +kernel)) (fun _ _ _ _ _ => pg_name (i := 1) nd rfl (Or.inl rfl)) (fun _ _ _ _ _ => pts_nil)
        (fun _ _ _ _ _ => pe_and (pe_call GR hr (by rfl) mR kR bR .nil pass0 (pa_cons (pv 1) pa_nil)) (pe_one (pe_cmpR op_eq (pe_ix (show IxR _ (rIxT K) from ix_tup) (pv 1) pe_int fun _ _ => rfl) pe_int (nomark _))))) pa_nil)))), ?_⟩
    have sc : ∀ {a : String}, tyN d = a → kitB a "list" = some false → voidD d = false → Q (.bl false) H := fun _ _ h => by
      rw [← h]
      exact q H (Same.refl H)
    cases hx with
    | non => exact ⟨_, rfl, p, C, dx, _, _, rfl, hp, T.cl, T.nW, flds_w _ _, _, _, _, _, false, rfl, .ty "list", .base .non, kit_ty (by decide +kernel), _, rfl, iteT (q H (Same.refl H))⟩
    | bl b => exact ⟨_, rfl, p, C, dx, _, _, rfl, hp, T.cl, T.nW, flds_w _ _, _, _, _, _, false, rfl, .ty "list", .base (.bl b), kit_ty (by decide +kernel), _, rfl, iteT (q H (Same.refl H))⟩
    | int i => exact ⟨_, rfl, p, C, dx, _, _, rfl, hp, T.cl, T.nW, flds_w _ _, _, _, _, _, false, rfl, .ty "list", .base (.int i), kit_ty (by decide +kernel), _, rfl, iteT (q H (Same.refl H))⟩
    | str z => exact ⟨_, rfl, p, C, dx, _, _, rfl, hp, T.cl, T.nW, flds_w _ _, _, _, _, _, false, rfl, .ty "list", .base (.str z), kit_ty (by decide +kernel), _, rfl, iteT (q H (Same.refl H))⟩
    | tup hs hd => exact absurd rfl (nt _)
    | @lst a xs ds hs hd =>
      refine ⟨_, rfl, p, C, dx, _, _, rfl, hp, T.cl, T.nW, flds_w _ _, _, _, _, _, true, rfl, .ty "list", tyx_list hs, kit_ty (by decide +kernel), _, rfl, iteF ?_⟩
      obtain ⟨hw, hl⟩ : ds.length ≤ 1000 ∧ ∀ d ∈ ds, fit 1 d = true := by
        obtain ⟨h1, h2⟩ := Bool.and_eq_true_iff.mp (show (decide (ds.length ≤ 1000) && ds.all (fit 1)) = true from hf)
        exact ⟨of_decide_eq_true h1, List.all_eq_true.mp h2⟩
      refine ⟨_, rfl, p, C, dx, _, _, rfl, hp, T.cl, T.nW, flds_w _ _, a, rfl, ⟨_, hs⟩, fun D hD => lc_list (K := K) (a := a) (xs := xs) (fun i G => Same H G ∧ G D = some (.lst (((ds.take i).map zeroD).map V.bl))) ⟨same_upd hD, upd_same⟩ (fun i G _ c => c.1.seq hs) (fun i y G hy c => ?_) (fun G c => ?_)⟩
      · obtain ⟨e, he, hye⟩ := DpAll.at' hd hy
        have lt : i < ds.length := (List.getElem?_eq_some_iff.mp he).1
        have et : ds.take (i + 1) = ds.take i ++ [e] := by
          rw [List.take_add_one, he]
          rfl
        have fin : ∀ {b : Bool}, zeroD e = b → ∃ acc, G D = some (.lst acc) ∧ acc.length < sizeLine ∧ (Same H (upd G D (.lst (acc ++ [V.bl b]))) ∧ (upd G D (.lst (acc ++ [V.bl b]))) D = some (.lst (((ds.take (i + 1)).map zeroD).map V.bl))) := fun {b} hb => by
          refine ⟨_, c.2, ?_, fun b' o h => ?_, ?_⟩
          · rw [List.length_map, List.length_map, List.length_take]
            exact Nat.lt_of_le_of_lt (Nat.min_le_right _ _) (Nat.lt_of_le_of_lt hw (by decide))
          · rw [upd_ne (ne_of_none h hD)]
            exact c.1 _ _ h
          · rw [upd_same, et, List.map_append, List.map_append, ← hb]
            rfl
        refine ⟨rfl, y, rfl, y, e, rfl, Dp.same c.1 _ _ hye, _, rfl, ?_⟩
        cases hr : isRat e with
        | false => exact iteF (fin (by unfold zeroD; rw [hr]; rfl))
        | true =>
          obtain ⟨t, b, rfl, hb⟩ : ∃ t b : Int, e = .tuple [.int t, .int b] ∧ 1 ≤ b := isRat_form hr
          have hyG := Dp.same c.1 _ _ hye
          cases hyG with
          | tup hs2 hd2 =>
            cases hd2 with
            | cons g1 t1 =>
              cases t1 with
              | cons g2 t2 =>
                cases t2
                cases g1
                refine iteT ⟨_, rfl, _, _, _, _, rfl, rfl, hs2, rfl, rfl, ?_⟩
                refine fin ?_
                unfold zeroD
                rw [hr]
                show decide (t = 0) = decide (V.int t = V.int 0)
                by_cases z : t = 0
                · rw [decide_eq_true z, decide_eq_true (by rw [z])]
                · rw [decide_eq_false z, decide_eq_false fun h => z (V.int.inj h)]
      · have c2 := c.2
        rw [DpAll.len hd, List.take_length] at c2
        refine ⟨D, ds.map zeroD, rfl, SqL.of c2, ?_⟩
        have e : (ds.map zeroD).all id = voidD (.list ds) := by
          rw [List.all_map]
          rfl
        rw [e]
        exact q G c.1
end
end Lw

set_option maxRecDepth 100000
set_option linter.unusedVariables false
namespace Lw
open PySem PySem.Spec PyProof.Rows L2 VG
/-- what isinstance of an instance asks -/
structure TxI (K : PySem.W.Frag) (C : Addr) : Prop where
  ha : PySem.W.findIn K (.ref C) "__class__" = some (some (.builtin "object.__class__"))
  hn : PySem.W.specialIn K (.builtin "object.__class__") "__get__" = some (some (.builtin "getset_descriptor.__get__"))
  htk : PySem.W.takesIn K (.builtin "object.__class__") = some true
  hm : PySem.W.mroIn K C (.type "object") = some true
  me : PySem.W.kitOne K (.ref C) (.ref C) = some true
  li : PySem.W.kitOne K (.type "list") (.ref C) = some false
def reprM (n : Nat) : Str := ((Str.empty ++ "Mean(") ++ toString (n : Int)) ++ " forms)"
section
variable {P : Program} {w : World} {K : PySem.W.Frag} {mg : Str → Option Value} {base : Heap}
theorem TxI.ty {C a dx : Addr} {H : Hp} {fs : List (Str × V)} (I : TxI K C) (c : Cls K C) (h : H a = some (.ins C dx fs)) : TyX K H (.ref a) (.ref C) := .base (.ins h c I.ha I.hn I.htk I.hm)
def spEqM (K : PySem.W.Frag) (C : Addr) : Sp := fun vs H Q _ => ∃ (p : Addr) (y : V) (d e : PyData), vs = [.ref p, y] ∧ MeanAt K C H p d e ∧
  ((∃ b d2 e2, y = .ref b ∧ MeanAt K C H b d2 e2 ∧ (SeqAt.shaped d = true ∧ SeqAt.shaped e = true ∧ SeqAt.shaped d2 = true ∧ SeqAt.shaped e2 = true) ∧ Q (.bl (PyData.eqv d d2 && PyData.eqv e e2)) H) ∨
   (∃ ds, Dp K H y (.list ds) ∧ Q (.bl false) H))
theorem scEqM : FnScope ["self", "other"] ["self", "other"] (defScope mEq) := ⟨rfl, rfl, rfl, by decide +kernel, rfl, by decide +kernel, by decide +kernel⟩
theorem ok_eqM {f C : Addr} {fd : FuncData} (F : Fun K "__eq__" "Mean.__eq__" mEq f fd) (T : TxM K C) (I : TxI K C) (is : mg "isinstance" = none) (mC : mg "Mean" = some (.ref C)) : FnOk P w K mg base CX0 1 f fd ["self", "other"] (spEqM K C) := by
  refine F.ok scEqM (fun vs H Q E h => ?_) (fun cdv A outer s H vs Q E hr h => ?_)
  · obtain ⟨p, y, d, e, rfl, _⟩ := h
    rfl
  · obtain ⟨p, y, d, e, rfl, ⟨dx, u, v, hp, hu, hv⟩, h⟩ := h
    have hun := hr.units
    refine ⟨_, pss_one (ps_ret (pe_and (pe_callB call_isi (by rfl) is (by decide +kernel) (pa_cons (pv 1) (pa_cons (pe_glob (v := .ref C) (by rfl) mC rfl) pa_nil)))
      (pe_and (pe_cmpR (op_eqD hun) (pe_fld (pv 0) rfl) (pe_fld (pv 1) rfl) (nomark _)) (pe_one (pe_cmpR (op_eqD hun) (pe_fld (pv 0) rfl) (pe_fld (pv 1) rfl) (nomark _)))))), ?_⟩
    rcases h with ⟨b, d2, e2, rfl, ⟨dy, u2, v2, hb, hu2, hv2⟩, ⟨s1, s2, s3, s4⟩, q⟩ | ⟨ds, hy, q⟩
    · refine ⟨_, rfl, _, _, _, _, true, rfl, .own C, I.ty T.cl hb, I.me, _, rfl, iteT ?_⟩
      refine ⟨_, rfl, p, C, dx, _, _, rfl, hp, T.cl, T.nW, flds_w _ _, _, rfl, b, C, dy, _, _, rfl, hb, T.cl, T.nW, flds_w _ _, d, d2, hu, hu2, s1, s3, _, rfl, ?_⟩
      cases z : PyData.eqv d d2 with
      | false =>
        rw [z] at q
        exact iteF q
      | true =>
        rw [z] at q
        exact iteT ⟨_, rfl, p, C, dx, _, _, rfl, hp, T.cl, T.nS, flds_s _ _, _, rfl, b, C, dy, _, _, rfl, hb, T.cl, T.nS, flds_s _ _, e, e2, hv, hv2, s2, s4, q⟩
    · cases hy with
      | lst hs hd => exact ⟨_, rfl, _, _, _, _, false, rfl, .own C, tyx_list hs, I.li, _, rfl, iteF q⟩
def spReprM (K : PySem.W.Frag) (C : Addr) : Sp := fun vs H Q _ => ∃ (p : Addr) (d e : PyData), vs = [.ref p] ∧ MeanAt K C H p d e ∧ lenD d ≤ 10 ∧ ∀ H', Same H H' → Q (.str (reprM (lenD d))) H'
theorem scReprM : FnScope ["self"] ["self"] (defScope mRepr) := ⟨rfl, rfl, rfl, by decide +kernel, rfl, by decide +kernel, by decide +kernel⟩
theorem repr_len : ∀ n : Nat, n ≤ 10 → (Str.empty ++ ("Mean(" : Str)).length ≤ sizeLine ∧ ((Str.empty ++ ("Mean(" : Str)) ++ toString (n : Int)).length ≤ sizeLine ∧ (reprM n).length ≤ sizeLine ∧ ((n : Int).natAbs.log2 < 1920) := by
  intro n hn
  have : n = 0 ∨ n = 1 ∨ n = 2 ∨ n = 3 ∨ n = 4 ∨ n = 5 ∨ n = 6 ∨ n = 7 ∨ n = 8 ∨ n = 9 ∨ n = 10 := by omega
  rcases this with rfl | rfl | rfl | rfl | rfl | rfl | rfl | rfl | rfl | rfl | rfl <;> decide +kernel
theorem ok_reprM {f fL C : Addr} {fd fdL : FuncData} (F : Fun K "__repr__" "Mean.__repr__" mRepr f fd) (T : TxM K C) (GL : FnOk P w K mg base CX0 1 fL fdL ["value"] (spLenOf K)) (mL : mg "length_of" = some (.ref fL)) (kL : PySem.W.keepIn K (.ref fL) = true) (bL : Binds K fdL ["value"] []) :
    FnOk P w K mg base CX0 2 f fd ["self"] (spReprM K C) := by
  refine F.ok scReprM (fun vs H Q E h => ?_) (fun cdv A outer s H vs Q E hr h => ?_)
  · obtain ⟨p, d, e, rfl, _⟩ := h
    rfl
  · obtain ⟨p, d, e, rfl, ⟨dx, u, v, hp, hu, hv⟩, hn, q⟩ := h
    obtain ⟨l1, l2, l3, l4⟩ := repr_len _ hn
    refine ⟨_, pss_one (ps_ret (pe_joined (.cons pe_str (.cons (pe_fmt (pe_call GL hr (by rfl) mL kL bL .nil pass0 (pa_cons (pe_fld (pv 0) rfl) pa_nil))) (.cons pe_str .nil))))), ?_⟩
    refine ⟨_, rfl, l1, ?_⟩
    refine ⟨_, rfl, p, C, dx, _, _, rfl, hp, T.cl, T.nW, flds_w _ _, u, d, rfl, hu, fun H1 m1 => .inr ⟨_, rfl, l4, _, rfl, l2, _, rfl, l3, q H1 m1⟩⟩
end
end Lw

set_option maxRecDepth 100000
set_option linter.unusedVariables false
namespace Lw
open PySem PySem.Spec PyProof.Rows L2 VG
/-! ### lists of pairs as data -/
def ratsD (ws : List (Int × Int)) : PyData := .list (ws.map ratT)
theorem PFs.all {p : Addr} {K : PySem.W.Frag} {H : Hp} : ∀ {xs : List V} {ws : List (Int × Int)}, PFs p H xs ws → DpAll K H xs (ws.map ratT)
  | _, _, .nil => .nil
  | _, _, .cons h t => .cons h.dp (PFs.all t)
theorem PFs.dp {p l : Addr} {K : PySem.W.Frag} {H : Hp} {xs : List V} {ws : List (Int × Int)} (hl : H l = some (.lst xs)) (h : PFs p H xs ws) : Dp K H (.ref l) (ratsD ws) := .lst (SqL.of hl) h.all
theorem rat_sm {s : Int × Int} (h : Good s) : VG.sm (ratT s) = true := by
  have e : (2 : Nat) ^ 60 ≤ 10 ^ 90 := by decide
  have a := Nat.lt_of_lt_of_le h.2.1 e
  have b := Nat.lt_of_lt_of_le h.2.2.1 e
  unfold ratT
  simp only [VG.sm, VG.smAll, Bool.and_true, Bool.and_eq_true, decide_eq_true_eq]
  exact ⟨a, b⟩
theorem rats_sm : ∀ {ws : List (Int × Int)}, (∀ s ∈ ws, Good s) → VG.smAll (ws.map ratT) = true
  | [], _ => rfl
  | s :: ws, h => by
    have a := rat_sm (h s List.mem_cons_self)
    have b := rats_sm fun t ht => h t (List.mem_cons_of_mem _ ht)
    simp only [List.map_cons, VG.smAll, a, b, Bool.and_self]
theorem rats_dp : ∀ (ws : List (Int × Int)), PyData.depthAll (ws.map ratT) ≤ 2
  | [] => by simp [PyData.depthAll]
  | s :: ws => by
    have b := rats_dp ws
    simp only [List.map_cons, PyData.depthAll, ratT, PyData.depth]
    omega
theorem rats_bk : ∀ (ws : List (Int × Int)), PyData.bulkAll (ws.map ratT) ≤ 10 * ws.length
  | [] => by simp [PyData.bulkAll]
  | s :: ws => by
    have b := rats_bk ws
    simp only [List.map_cons, PyData.bulkAll, ratT, PyData.bulk, List.length_cons]
    omega
theorem eqv_rat (s t : Int × Int) : PyData.eqv (ratT s) (ratT t) = (decide (s.1 = t.1) && decide (s.2 = t.2)) := by
  unfold ratT
  simp [PyData.eqv, PyData.eqvAll]
  by_cases h1 : s.1 = t.1 <;> by_cases h2 : s.2 = t.2 <;> simp [h1, h2]
theorem eqv_rats : ∀ ws : List (Int × Int), PyData.eqvAll (ws.map ratT) (ws.map ratT) = true
  | [] => by simp [PyData.eqvAll]
  | s :: ws => by
    have b := eqv_rats ws
    simp only [List.map_cons, PyData.eqvAll, b, Bool.and_true, eqv_rat, decide_true]
theorem eqv_ratsD (ws : List (Int × Int)) : PyData.eqv (ratsD ws) (ratsD ws) = true := by
  unfold ratsD
  simp only [PyData.eqv]
  exact eqv_rats ws
theorem eqv_more : ∀ (ws : List (Int × Int)) (t : Int × Int), PyData.eqvAll (ws.map ratT) ((ws ++ [t]).map ratT) = false
  | [], t => by simp [PyData.eqvAll]
  | s :: ws, t => by
    have b := eqv_more ws t
    simp only [List.cons_append, List.map_cons, PyData.eqvAll, b, Bool.and_false]
theorem eqv_moreD (ws : List (Int × Int)) (t : Int × Int) : PyData.eqv (ratsD ws) (ratsD (ws ++ [t])) = false := by
  unfold ratsD
  simp only [PyData.eqv]
  exact eqv_more ws t
/-- not zero, as the law asks it -/
def nz (s : Int × Int) : Bool := !PyData.eqv (ratT s) (ratT (0, 1))
theorem zero_nz {s : Int × Int} (h : Good s) : zeroD (ratT s) = !nz s := by
  unfold nz
  rw [eqv_rat, Bool.not_not]
  unfold zeroD
  rw [h.1]
  show decide (s.1 = 0) = (decide (s.1 = 0) && decide (s.2 = 1))
  by_cases z : s.1 = 0
  · have e : s.2 = 1 := by
      have g := h.1
      obtain ⟨a, b⟩ := s
      have z : a = 0 := z
      subst z
      have g : (true && (true && (decide (1 ≤ b) && decide (Nat.gcd (0 : Int).natAbs b.natAbs = 1)))) = true := g
      simp only [Bool.true_and, Bool.and_eq_true, decide_eq_true_eq] at g
      obtain ⟨g1, g2⟩ := g
      have g2 : Nat.gcd 0 b.natAbs = 1 := g2
      rw [Nat.gcd_zero_left] at g2
      show b = 1
      omega
    rw [decide_eq_true z, decide_eq_true e]
    rfl
  · rw [decide_eq_false z]
    rfl
theorem eqv_nil (l : List PyData) : PyData.eqv (.list l) (.list []) = l.isEmpty := by
  simp only [PyData.eqv]
  cases l <;> simp [PyData.eqvAll]
theorem void_all : ∀ {ws : List (Int × Int)}, (∀ s ∈ ws, Good s) → (ws.map ratT).all zeroD = ((ws.filter nz).map ratT).isEmpty
  | [], _ => rfl
  | s :: ws, h => by
    have a := zero_nz (h s List.mem_cons_self)
    have b := void_all fun t ht => h t (List.mem_cons_of_mem _ ht)
    rw [List.map_cons, List.all_cons, a, b, List.filter_cons]
    cases nz s <;> rfl
theorem void_eq {ws : List (Int × Int)} (h : ∀ s ∈ ws, Good s) : voidD (ratsD ws) = PyData.eqv (.list ((ws.filter nz).map ratT)) (.list []) := by
  rw [eqv_nil]
  exact void_all h
/-- how the law writes it -/
def lawM (n : Nat) : Str := (("Mean(" : Str) ++ toString (n : Int)) ++ " forms)"
theorem repr_law : ∀ n : Nat, n ≤ 10 → reprM n = lawM n ∧ PyData.strOk (lawM n) = true ∧ (lawM n).cps.size ≤ 20 ∧ (("Mean(" : Str).length + (toString (n : Int) : Str).length ≤ sizeLine) ∧ (("Mean(" : Str) ++ (toString (n : Int) : Str)).length + (" forms)" : Str).length ≤ sizeLine := by
  intro n hn
  have : n = 0 ∨ n = 1 ∨ n = 2 ∨ n = 3 ∨ n = 4 ∨ n = 5 ∨ n = 6 ∨ n = 7 ∨ n = 8 ∨ n = 9 ∨ n = 10 := by omega
  rcases this with rfl | rfl | rfl | rfl | rfl | rfl | rfl | rfl | rfl | rfl | rfl <;> decide +kernel
/-- all but p -/
def wo (p : Addr) (G : Hp) : Hp := fun b => if b = p then none else G b
theorem wo_sub {p : Addr} {G : Hp} : Same (wo p G) G := fun b o h => by
  unfold wo at h
  split at h
  · cases h
  · exact h
theorem wo_ex {p : Addr} {G G' : Hp} (e : Ex p G G') : Same (wo p G) (wo p G') := fun b o h => by
  unfold wo at h ⊢
  split at h
  · cases h
  · rename_i n
    rw [if_neg n]
    exact e b o n h
theorem newer_wo {p : Addr} {H G : Hp} {o : HO} (h : H p = some o) : Same (newer H G) (wo p G) := fun b u e => by
  cases z : H b with
  | some x =>
    rw [newer_none z] at e
    cases e
  | none =>
    rw [newer_at z] at e
    unfold wo
    rw [if_neg]
    · exact e
    · intro y
      rw [y, h] at z
      cases z
/-- a mean just made -/
def MeanNew (K : PySem.W.Frag) (C : Addr) (H H' : Hp) (m : Addr) (d e : PyData) : Prop := H m = none ∧ ∃ dx x y, H' m = some (.ins C dx (flds x y)) ∧ Dp K (newer H H') x d ∧ Dp K (newer H H') y e
theorem MeanNew.at_ {K : PySem.W.Frag} {C m : Addr} {H H' : Hp} {d e : PyData} (h : MeanNew K C H H' m d e) : MeanAt K C H' m d e := by
  obtain ⟨_, dx, x, y, h1, h2, h3⟩ := h
  exact ⟨dx, x, y, h1, Dp.same newer_sub _ _ h2, Dp.same newer_sub _ _ h3⟩
theorem MeanNew.upd {K : PySem.W.Frag} {C m b : Addr} {H H' : Hp} {d e : PyData} {u o : HO} (h : MeanNew K C H H' m d e) (hb : H b = some u) : MeanNew K C H (upd H' b o) m d e := by
  obtain ⟨h0, dx, x, y, h1, h2, h3⟩ := h
  have n : ∀ {c}, H c = none → c ≠ b := fun {c} z y => by
    rw [y, hb] at z
    cases z
  have s : Same (newer H H') (newer H (L2.upd H' b o)) := newer_mono (fun c z => z) fun c z o' e => by
    rw [upd_ne (n z)]
    exact e
  refine ⟨h0, dx, x, y, ?_, Dp.same s _ _ h2, Dp.same s _ _ h3⟩
  rw [upd_ne (n h0)]
  exact h1
/-- a mean, none of it at p -/
def MeanF (K : PySem.W.Frag) (C p : Addr) (G : Hp) (m : Addr) (d e : PyData) : Prop := m ≠ p ∧ ∃ dx x y, G m = some (.ins C dx (flds x y)) ∧ Dp K (wo p G) x d ∧ Dp K (wo p G) y e
theorem MeanNew.f {K : PySem.W.Frag} {C p m : Addr} {H H' : Hp} {d e : PyData} {o : HO} (h : MeanNew K C H H' m d e) (hp : H p = some o) : MeanF K C p H' m d e := by
  obtain ⟨h0, dx, x, y, h1, h2, h3⟩ := h
  refine ⟨fun z => ?_, dx, x, y, h1, Dp.same (newer_wo hp) _ _ h2, Dp.same (newer_wo hp) _ _ h3⟩
  rw [z, hp] at h0
  cases h0
theorem MeanF.ex {K : PySem.W.Frag} {C p m : Addr} {G G' : Hp} {d e : PyData} (h : MeanF K C p G m d e) (x : Ex p G G') : MeanF K C p G' m d e := by
  obtain ⟨n, dx, u, v, h1, h2, h3⟩ := h
  exact ⟨n, dx, u, v, x _ _ n h1, Dp.same (wo_ex x) _ _ h2, Dp.same (wo_ex x) _ _ h3⟩
theorem MeanF.at_ {K : PySem.W.Frag} {C p m : Addr} {G : Hp} {d e : PyData} (h : MeanF K C p G m d e) : MeanAt K C G m d e := by
  obtain ⟨n, dx, u, v, h1, h2, h3⟩ := h
  exact ⟨dx, u, v, h1, Dp.same wo_sub _ _ h2, Dp.same wo_sub _ _ h3⟩
theorem made {K : PySem.W.Frag} {C : Addr} {H2 : Hp} {x dx : Addr} {u v : V} {d e : PyData} {R : Hp → Prop} {E : XK} (hx : H2 x = none) (hdx : H2 dx = none) (ne : dx ≠ x) (hu : Dp K H2 u d) (hv : Dp K H2 v e) (fu : fit 2 d = true) (fv : fit 2 e = true)
    (k : ∀ H', Same H2 H' → MeanNew K C H2 H' x (listD d) (listD e) → R H') : spInitM K C 1 [.ref x, u, v] (upd (upd H2 dx (.own x)) x (.ins C dx [])) (fun v H3 => v = .non ∧ R H3) E := by
  have sm : Same H2 (upd (upd H2 dx (.own x)) x (.ins C dx [])) := fun b o h => by
    rw [upd_ne (ne_of_none h hx), upd_ne (ne_of_none h hdx)]
    exact h
  have mono : ∀ {H' : Hp}, Same (newer (upd (upd H2 dx (.own x)) x (.ins C dx [])) H') (newer H2 H') := fun {H'} => newer_mono (fun b z => upd_none (upd_none z)) fun b z o e => e
  refine ⟨x, dx, u, v, d, e, rfl, upd_same, Dp.same sm _ _ hu, Dp.same sm _ _ hv, fu, fv, fun H' x' y' h1 h2 h3 h4 => ⟨rfl, k H' (fun b o h => h4 b o (ne_of_none h hx) (sm b o h)) ⟨hx, dx, x', y', h1, Dp.same mono _ _ h2, Dp.same mono _ _ h3⟩⟩⟩
/-- what stands through a turn -/
structure Fc (K : PySem.W.Frag) (C p q : Addr) (G : Hp) (l l2 m : Addr) (xs ys : List V) (ws ss : List (Int × Int)) : Prop where
  hl : G l = some (.lst xs)
  nl : l ≠ p
  hx : PFs p G xs ws
  hl2 : G l2 = some (.lst ys)
  nl2 : l2 ≠ p
  hy : PFs p G ys ss
  mean : MeanF K C p G m (ratsD ws) (ratsD ss)
  src : ∃ cells, Src G p q cells
theorem Fc.ex {K : PySem.W.Frag} {C p q : Addr} {G G' : Hp} {l l2 m : Addr} {xs ys : List V} {ws ss : List (Int × Int)} {cells : List Int} (h : Fc K C p q G l l2 m xs ys ws ss) (x : Ex p G G') (s : Src G' p q cells) : Fc K C p q G' l l2 m xs ys ws ss :=
  ⟨x _ _ h.nl h.hl, h.nl, h.hx.ex x, x _ _ h.nl2 h.hl2, h.nl2, h.hy.ex x, h.mean.ex x, ⟨_, s⟩⟩
theorem Fc.same {K : PySem.W.Frag} {C p q : Addr} {G G' : Hp} {l l2 m : Addr} {xs ys : List V} {ws ss : List (Int × Int)} (h : Fc K C p q G l l2 m xs ys ws ss) (s : Same G G') : Fc K C p q G' l l2 m xs ys ws ss := by
  obtain ⟨cells, hs⟩ := h.src
  exact h.ex (Ex.sm s) (hs.on s)
theorem fit_rats : ∀ {ws : List (Int × Int)}, ws.length ≤ 1000 → fit 2 (ratsD ws) = true := by
  intro ws h
  show (decide ((ws.map ratT).length ≤ 1000) && (ws.map ratT).all (fit 1)) = true
  rw [List.length_map, decide_eq_true h, List.all_map, List.all_eq_true.mpr]
  · rfl
  · intro x _
    rfl
theorem ratsD_sm {ws : List (Int × Int)} (g : ∀ s ∈ ws, Good s) (h : ws.length ≤ 100) : Sm (ratsD ws) := by
  refine ⟨?_, ?_, ?_⟩
  · simp only [ratsD, VG.sm]
    exact rats_sm g
  · have := rats_dp ws
    simp only [ratsD, PyData.depth]
    omega
  · have := rats_bk ws
    simp only [ratsD, PyData.bulk]
    omega
theorem more_good {ws : List (Int × Int)} (g : ∀ s ∈ ws, Good s) : ∀ s ∈ ws ++ [(1, 1)], Good s := fun s hs => by
  rcases List.mem_append.mp hs with h | h
  · exact g s h
  · rw [List.mem_singleton.mp h]
    exact ⟨rat_one 1, by decide, by decide, by decide⟩
theorem zero_good {ws : List (Int × Int)} (g : ∀ s ∈ ws, Good s) : ∀ s ∈ ws ++ [(0, 1)], Good s := fun s hs => by
  rcases List.mem_append.mp hs with h | h
  · exact g s h
  · rw [List.mem_singleton.mp h]
    exact ⟨rat_one 0, by decide, by decide, by decide⟩
theorem due2_sm {d : PyData} {ws ss : List (Int × Int)} (hd : VG.sm d = true ∧ d.depth ≤ 5 ∧ d.bulk ≤ 100) (gw : ∀ s ∈ ws, Good s) (gs : ∀ s ∈ ss, Good s) (lw : ws.length ≤ 100) (ls : ss.length ≤ 100) : Sm (.list [d, ratsD ss, .bool false, .str "Mean(0 forms)", ratsD ws]) := by
  have h1 := (ratsD_sm gw lw).sm
  have h2 := (ratsD_sm gs ls).sm
  have e0 : PyData.strOk "Mean(0 forms)" = true := by decide +kernel
  refine ⟨?_, ?_, ?_⟩
  · simp only [VG.sm, VG.smAll, h1, h2, hd.1, e0, Bool.and_self]
  · have := rats_dp ws
    have := rats_dp ss
    have := hd.2.1
    simp only [ratsD, PyData.depth, PyData.depthAll]
    omega
  · have := rats_bk ws
    have := rats_bk ss
    have := hd.2.2
    have e : ("Mean(0 forms)" : Str).cps.size = 13 := by decide +kernel
    simp only [ratsD, PyData.bulk, PyData.bulkAll, e]
    omega
end Lw

set_option maxRecDepth 100000
set_option linter.unusedVariables false
namespace Lw
open PySem PySem.Spec PyProof.Rows L2 VG
/-- a def that keeps a promise, by its name -/
structure Def (P : Program) (w : World) (K : PySem.W.Frag) (mg : Str → Option Value) (base : Heap) (CX : CXT) (k : Nat) (x : Str) (ps : List Str) (sp : Sp) (f : Addr) (fd : FuncData) : Prop where
  ok : FnOk P w K mg base CX k f fd ps sp
  at_ : mg x = some (.ref f)
  kp : PySem.W.keepIn K (.ref f) = true
  bd : L2.Binds K fd ps []
/-- a method that keeps a promise -/
structure MetD (P : Program) (w : World) (K : PySem.W.Frag) (mg : Str → Option Value) (base : Heap) (CX : CXT) (k : Nat) (C : Addr) (m : Str) (ps : List Str) (sp : Sp) (f : Addr) (fd : FuncData) : Prop where
  ok : FnOk P w K mg base CX k f fd ps sp
  at_ : Meth K C m f
  bd : L2.Binds K fd ps []
/-- a special method -/
structure SpeD (P : Program) (w : World) (K : PySem.W.Frag) (mg : Str → Option Value) (base : Heap) (CX : CXT) (k : Nat) (C : Addr) (m : Str) (sp : Sp) (f : Addr) : Prop where
  ok : FnR P w K mg base CX k f sp
  at_ : PySem.W.findIn K (.ref C) m = some (some (.ref f))
  fn : PySem.W.isFn K (.ref f) = true
structure LawT (P : Program) (w : World) (K : PySem.W.Frag) (mg : Str → Option Value) (base : Heap) (C : Addr) : Prop where
  src : ∃ f fd, Def P w K mg base CX0 1 "_law_source" ["_law_script"] (spSource K) f fd
  draw : ∃ f fd, Def P w K mg base CX0 1 "_law_draw" ["_law_src", "_law_many"] spDraw f fd
  of_ : ∃ f fd, Def P w K mg base CX0 2 "_law_of" ["_law_src", "_law_some"] (spOf K) f fd
  same : ∃ f fd, FnG P w K mg base CX0 1 f fd ["_law_found", "_law_due"] (spSame K) ∧ mg "_law_same" = some (.ref f) ∧ PySem.W.keepIn K (.ref f) = true ∧ L2.Binds K fd ["_law_found", "_law_due"] []
  len_ : ∃ f fd, Def P w K mg base CX0 2 "_law_length" ["_law_src"] spLen f fd
  init : ∃ f fd, FnOk P w K mg base CX0 4 f fd ["self", "weights", "sums"] (spInitM K C 1) ∧ Mk K C f ∧ L2.Binds K fd ["self", "weights", "sums"] [] ∧ KBn K fd ["self", "weights", "sums"] 1 ["sums", "weights"] (fun us ws => us ++ ws.reverse) (fun us ws => us ++ ws.reverse)
  weights : ∃ f fd, MetD P w K mg base CX0 4 C "weights" ["self"] (spGet K C "_weights" 2) f fd
  sums : ∃ f fd, MetD P w K mg base CX0 4 C "sums" ["self"] (spGet K C "_sums" 2) f fd
  void : ∃ f fd, MetD P w K mg base CX0 3 C "is_void" ["self"] (spVoid K C) f fd
  eq : ∃ g, SpeD P w K mg base CX0 1 C "__eq__" (spEqM K C) g ∧ NeK K C g
  repr : ∃ g, SpeD P w K mg base CX0 2 C "__repr__" (spReprM K C) g
  cls : TxM K C
  ins : TxI K C
  nf : PySem.W.notFirst K C (.type "list") = true
  nfc : PySem.W.notFirst K C (.ref C) = true
  mean : mg "Mean" = some (.ref C)
  list : mg "list" = none
  len : mg "len" = none
  str : mg "str" = none
  tup : mg "tuple" = none
  rep : mg "repr" = none
  rng : mg "range" = none
abbrev NL : List Str := ["_law_script", "_law_src", "_law_turn", "_law_weights_z", "_law_sums_z", "_law_k", "_law_one", "_law_other", "_law_made", "_law_again", "_law_due", "_law_pair", "_law_odd", "_law_late"]
theorem scLaw : FnScope NL ["_law_script"] (defScope sLaw) := ⟨rfl, rfl, rfl, by decide +kernel, rfl, by decide +kernel, by decide +kernel⟩
def spLaw (K : PySem.W.Frag) : Sp := fun vs H Q _ => ∃ (a : Addr) (ns : List Int), vs = [.ref a] ∧ SqL K H a (ns.map V.int) ∧ ns.length ≤ 63 ∧ ∀ H', Q (.bl true) H'
section
variable {P : Program} {w : World} {K : PySem.W.Frag} {mg : Str → Option Value} {base : Heap}
theorem ok_law {f C : Addr} {fd : FuncData} (F : Fun K "law" "law" sLaw f fd) (T : LawT P w K mg base C) : FnG P w K mg base CX0 7 f fd ["_law_script"] (spLaw K) := by
  obtain ⟨fS, dS, GS⟩ := T.src
  obtain ⟨fD, dD, GD⟩ := T.draw
  obtain ⟨fO, dO, GO⟩ := T.of_
  obtain ⟨fE, dE, GE, mE, kE, bE⟩ := T.same
  obtain ⟨fL, dL, GL⟩ := T.len_
  obtain ⟨fI, dI, GI, MI, bI, kI⟩ := T.init
  obtain ⟨fW, dW, GW⟩ := T.weights
  obtain ⟨fU, dU, GU⟩ := T.sums
  obtain ⟨fV, dV, GV⟩ := T.void
  obtain ⟨fQ, GQ, NQ⟩ := T.eq
  obtain ⟨fR, GR⟩ := T.repr
  refine okG F scLaw (fun vs H Q E h => ?_) (fun cdv A outer s H vs Q E hG hr h => ?_)
  · obtain ⟨a, ns, rfl, _⟩ := h
    rfl
  · obtain ⟨a, ns, rfl, hS, hlen, k⟩ := h
    have nd := scLaw.nd
    have hun := hr.units
    have hr1 : Room 1 _ := hr.mono (by decide)
    have hr2 : Room 2 _ := hr.mono (by decide)
    have hr3 : Room 3 _ := hr.mono (by decide)
    have hr4 : Room 4 _ := hr.mono (by decide)
    have hr5 : Room 5 _ := hr.mono (by decide)
    refine ⟨_, pss_cons (ps_set (i := 1) nd rfl (Or.inr rfl) (pe_call GS.ok hr1 (by rfl) GS.at_ GS.kp GS.bd .nil pass0 (pa_cons (pv 0) pa_nil)))
      (pss_cons (ps_for PassesOwn.never rfl (pi_range1 (by rfl) T.rng (pa_cons pe_int pa_nil)) (pg_name (i := 2) nd rfl (Or.inl rfl))
        (C8.pss_cut (ps_par (i := 3) (j := 4) (by rfl) nd rfl rfl (by decide) rfl rfl
            (pa_cons (pe_lc (own := [("_law_k", 5)]) (g := gName 5) (tt := tYes) rfl nd (pi_range1 (by rfl) T.rng (pa_cons (pe_call GD.ok hr1 (by rfl) GD.at_ GD.kp GD.bd .nil pass0 (pa_cons (pv 1) (pa_cons pe_int pa_nil))) pa_nil))
                (blkOk_by (own := [("_law_k", 5)]) (N := NL) (sc := defScope sLaw) (by decide +kernel)) (fun _ _ _ _ _ => pg_name (i := 5) nd rfl (Or.inl rfl)) (fun _ _ _ _ _ => pts_nil)
                (fun _ _ _ _ _ => pe_call GO.ok hr2 (by rfl) GO.at_ GO.kp GO.bd .nil pass0 (pa_cons (pv 1) (pa_cons (pe_lst (pa_cons (pe_tup (pa_cons pe_int (pa_cons pe_int pa_nil))) (pa_cons (pe_tup (pa_cons pe_int (pa_cons pe_int pa_nil)))
                  (pa_cons (pe_call GL.ok hr2 (by rfl) GL.at_ GL.kp GL.bd .nil pass0 (pa_cons (pv 1) pa_nil)) pa_nil)))) pa_nil))))
            (pa_cons (pe_lc (own := [("_law_k", 5)]) (g := gName 5) (tt := tYes) rfl nd (pi_range1 (by rfl) T.rng (pa_cons (pe_call GD.ok hr1 (by rfl) GD.at_ GD.kp GD.bd .nil pass0 (pa_cons (pv 1) (pa_cons pe_int pa_nil))) pa_nil))
                (blkOk_by (own := [("_law_k", 5)]) (N := NL) (sc := defScope sLaw) (by decide +kernel)) (fun _ _ _ _ _ => pg_name (i := 5) nd rfl (Or.inl rfl)) (fun _ _ _ _ _ => pts_nil)
                (fun _ _ _ _ _ => pe_call GL.ok hr2 (by rfl) GL.at_ GL.kp GL.bd .nil pass0 (pa_cons (pv 1) pa_nil))) pa_nil)) (by rfl))
        (pss_cons (ps_par (i := 6) (j := 7) (by rfl) nd rfl rfl (by decide) rfl rfl (pa_cons (pe_callTy call_list_of (by rfl) T.list (by decide +kernel) (pa_cons (pv 3) pa_nil)) (pa_cons (pe_callTy call_list_of (by rfl) T.list (by decide +kernel) (pa_cons (pv 4) pa_nil)) pa_nil)) (by rfl))
        (pss_cons (ps_set (i := 8) nd rfl (Or.inl rfl) (pe_makeK0 MI GI hr5 (by rfl) T.mean kI pass0 (pk_cons (pv 7) (pk_cons (pv 6) pk_nil))))
        (pss_cons (ps_expr (pe_bm PySem.F.plainAttrs_list PySem.F.slot_list_append PySem.F.type_list_append mt_append (pv 6) (pa_cons pe_str pa_nil)))
        (C8.pss_cut (ps_expr (pe_bm PySem.F.plainAttrs_list PySem.F.slot_list_append PySem.F.type_list_append mt_append (pv 7) (pa_cons pe_str pa_nil)))
        (C8.pss_cut (ps_for PassesOwn.never rfl (pi_range1 (by rfl) T.rng (pa_cons pe_int pa_nil)) (pg_name (i := 9) nd rfl (Or.inl rfl))
          (C8.pss_cut (ps_set (i := 10) nd rfl (Or.inl rfl) (pe_lst (pa_cons (pv 3) (pa_cons (pv 4) (pa_cons (pe_cmpR (op_eqD hun)
              (pe_lc (own := [("_law_pair", 11)]) (g := gName 11) rfl nd (pi_list (pv 3)) (blkOk_by (own := [("_law_pair", 11)]) (N := NL) (sc := defScope sLaw) (by decide +kernel)) (fun _ _ _ _ _ => pg_name (i := 11) nd rfl (Or.inl rfl))
                (fun _ _ _ _ _ => pts_one (pt_cmpR (show OpR _ _ (rNeD K) from op_neD hun) (pv 11) (pe_tup (pa_cons pe_int (pa_cons pe_int pa_nil))) (nomark _))) (fun _ _ _ _ _ => pv 11)) (pe_lst pa_nil) (nomark _))
              (pa_cons (pe_op op_add_str (pe_op op_add_str pe_str (pe_callTy call_str_int (by rfl) T.str (by decide +kernel) (pa_cons (pe_callB call_len_seq (by rfl) T.len PySem.boot_len (pa_cons (pv 3) pa_nil)) pa_nil))) pe_str) pa_nil))))))
          (C8.pss_cut (ps_if (pt_not (pt_val (pe_callG GE hG hr1 (by rfl) mE kE bE .nil pass0 (pa_cons (pe_lst (pa_cons (pe_meth0 (pv 8) T.cls.cl GW.at_ GW.ok hr4 GW.bd .nil pass0) (pa_cons (pe_meth0 (pv 8) T.cls.cl GU.at_ GU.ok hr4 GU.bd .nil pass0)
              (pa_cons (pe_meth0 (pv 8) T.cls.cl GV.at_ GV.ok hr3 GV.bd .nil pass0) (pa_cons (pe_callB (call_reprO GR.at_ GR.fn GR.ok hr3 pass0) (by rfl) T.rep (by decide +kernel) (pa_cons (pv 8) pa_nil)) pa_nil))))) (pa_cons (pv 10) pa_nil))))) (pss_one (ps_ret pe_bl)) pss_nil)
          (pss_cons (ps_expr (pe_bm PySem.F.plainAttrs_list PySem.F.slot_list_append PySem.F.type_list_append mt_append (pe_meth0 (pv 8) T.cls.cl GW.at_ GW.ok hr4 GW.bd .nil pass0) (pa_cons pe_str pa_nil)))
          (pss_one (ps_expr (pe_bm PySem.F.plainAttrs_list PySem.F.slot_list_append PySem.F.type_list_append mt_append (pe_meth0 (pv 8) T.cls.cl GU.at_ GU.ok hr4 GU.bd .nil pass0) (pa_cons pe_str pa_nil))))))))
        (C8.pss_cut (ps_set (i := 12) nd rfl (Or.inl rfl) (pe_call GO.ok hr2 (by rfl) GO.at_ GO.kp GO.bd .nil pass0 (pa_cons (pv 1) (pa_cons (pe_lst (pa_cons pe_non (pa_cons pe_int (pa_cons pe_str (pa_cons pe_bl pa_nil))))) pa_nil))))
        (C8.pss_cut (ps_set (i := 13) nd rfl (Or.inl rfl) (pe_make MI GI hr5 (by rfl) T.mean bI .nil pass0 (pa_cons (pv 12) (pa_cons (pe_callTy call_tuple_of (by rfl) T.tup (by decide +kernel) (pa_cons (pv 4) pa_nil)) pa_nil))))
        (C8.pss_cut (ps_if (pt_not (pt_val (pe_callG GE hG hr1 (by rfl) mE kE bE .nil pass0 (pa_cons (pe_lst (pa_cons (pe_meth0 (pv 13) T.cls.cl GW.at_ GW.ok hr4 GW.bd .nil pass0) (pa_cons (pe_meth0 (pv 13) T.cls.cl GU.at_ GU.ok hr4 GU.bd .nil pass0)
              (pa_cons (pe_meth0 (pv 13) T.cls.cl GV.at_ GV.ok hr3 GV.bd .nil pass0) (pa_cons (pe_callB (call_reprO GR.at_ GR.fn GR.ok hr3 pass0) (by rfl) T.rep (by decide +kernel) (pa_cons (pv 13) pa_nil))
              (pa_cons (pe_meth0 (pe_make MI GI hr5 (by rfl) T.mean bI .nil pass0 (pa_cons (pe_callTy call_tuple_of (by rfl) T.tup (by decide +kernel) (pa_cons (pv 3) pa_nil)) (pa_cons (pv 12) pa_nil))) T.cls.cl GW.at_ GW.ok hr4 GW.bd .nil pass0) pa_nil))))))
              (pa_cons (pe_lst (pa_cons (pv 12) (pa_cons (pv 4) (pa_cons pe_bl (pa_cons pe_str (pa_cons (pv 3) pa_nil)))))) pa_nil))))) (pss_one (ps_ret pe_bl)) pss_nil)
        (pss_one (ps_if (pt_cmpR (op_neD hun) (pe_lst
              (pa_cons (pe_cmpR (op_eqO GQ.at_ GQ.fn GQ.ok hr1 pass0) (pv 8) (pe_make MI GI hr5 (by rfl) T.mean bI .nil pass0 (pa_cons (pv 3) (pa_cons (pv 4) pa_nil))) (nomark _))
              (pa_cons (pe_cmpR (op_neO NQ GQ.ok hr2 pass0) (pv 8) (pe_make MI GI hr5 (by rfl) T.mean bI .nil pass0 (pa_cons (pv 3) (pa_cons (pv 4) pa_nil))) (nomark _))
              (pa_cons (pe_cmpR (op_eqO GQ.at_ GQ.fn GQ.ok hr1 pass0) (pv 8) (pe_make MI GI hr5 (by rfl) T.mean bI .nil pass0 (pa_cons (pe_op op_cat (pv 3) (pe_lst (pa_cons (pe_tup (pa_cons pe_int (pa_cons pe_int pa_nil))) pa_nil))) (pa_cons (pv 4) pa_nil))) (nomark _))
              (pa_cons (pe_cmpR (op_eqO GQ.at_ GQ.fn GQ.ok hr1 pass0) (pv 8) (pe_make MI GI hr5 (by rfl) T.mean bI .nil pass0 (pa_cons (pv 3) (pa_cons (pe_op op_cat (pv 4) (pe_lst (pa_cons (pe_tup (pa_cons pe_int (pa_cons pe_int pa_nil))) pa_nil))) pa_nil))) (nomark _))
              (pa_cons (pe_cmpR (op_eqO GQ.at_ GQ.fn GQ.ok hr1 pass0) (pv 8) (pv 3) (nomark _)) pa_nil))))))
            (pe_lst (pa_cons pe_bl (pa_cons pe_bl (pa_cons pe_bl (pa_cons pe_bl (pa_cons pe_bl pa_nil)))))) (nomark _)) (pss_one (ps_ret pe_bl)) pss_nil))))))))))))
      (pss_one (ps_ret (pe_cmpR op_isBl (pe_meth0 (pe_make MI GI hr5 (by rfl) T.mean bI .nil pass0 (pa_cons (pe_lst (pa_cons pe_non pa_nil)) (pa_cons (pe_lst pa_nil) pa_nil))) T.cls.cl GV.at_ GV.ok hr3 GV.bd .nil pass0) pe_bl (nomark _))))), ?_⟩
    refine ⟨_, rfl, a, ns, rfl, hS, hlen, fun p q H1 hp0 hq0 sm1 S1 => ?_⟩
    have two : (2 : Nat) ≤ sizeLine := by decide
    have three : (3 : Nat) ≤ sizeLine := by decide
    have four : (4 : Nat) ≤ sizeLine := by decide
    have five : (5 : Nat) ≤ sizeLine := by decide
    have one : (1 : Nat) ≤ sizeLine := by decide
    refine ⟨4, rfl, by decide, by decide, for_range (lo := 0) (n := 4) (fun i σ G => ∃ o2 o3 o4 o5 o6 o7 o8 o9 o10 o11 o12 o13 : Option V, σ = [some (.ref a), some (.ref p), o2, o3, o4, o5, o6, o7, o8, o9, o10, o11, o12, o13] ∧ ∃ cells, Src G p q cells)
      ⟨none, none, none, none, none, none, none, none, none, none, none, none, rfl, _, S1⟩ ?_ ?_⟩
    · rintro i σ G hi ⟨o2, o3, o4, o5, o6, o7, o8, o9, o10, o11, o12, o13, rfl, cells, S0⟩
      -- the weights, the sums
      refine ⟨fun σ G => ∃ (l l2 : Addr) (xs ys : List V) (ws ss : List (Int × Int)) (o2 o5 o6 o7 o8 o9 o10 o11 o12 o13 : Option V), σ = [some (.ref a), some (.ref p), o2, some (.ref l), some (.ref l2), o5, o6, o7, o8, o9, o10, o11, o12, o13] ∧ l ≠ p ∧ l2 ≠ p ∧ G l = some (.lst xs) ∧ G l2 = some (.lst ys) ∧ PFs p G xs ws ∧ PFs p G ys ss ∧
          (∀ s ∈ ws, Good s) ∧ (∀ s ∈ ss, Good s) ∧ ws.length ≤ 3 ∧ ss.length ≤ 3 ∧ ∃ cells, Src G p q cells, ?_, ?_⟩
      · refine ⟨_, rfl, p, q, cells, 4, rfl, S0, by decide, by decide, fun d Ga a1 c1 Sa Ba => ?_⟩
        refine ⟨d, rfl, by omega, by omega, fun D hD => ?_⟩
        have nDp : D ≠ p := fun z => by
          obtain ⟨u, hu⟩ := Sa.at'
          rw [← z, hD] at hu
          cases hu
        have nDq : D ≠ q := fun z => by
          have hu := Sa.cs
          rw [← z, hD] at hu
          cases hu
        refine lc_range (lo := 0) (n := d.toNat) (fun i G' => ∃ (xs : List V) (ws : List (Int × Int)), G' D = some (.lst xs) ∧ ws.length = i ∧ PFs p G' xs ws ∧ (∀ s ∈ ws, Good s) ∧ Src G' p q cells)
          ⟨[], [], upd_same, rfl, .nil, (fun _ h => by cases h), Sa.on (same_upd hD)⟩ ?_ ?_
        · rintro i G' hi ⟨xs, ws, hx, hl, hP, hg, hS'⟩
          refine ⟨rfl, ?_⟩
          refine ⟨_, rfl, two, fun a1 h1 => ⟨two, fun a2 h2 => ?_⟩⟩
          have m1 := same_upd (o := .tup [.int 0, .int 1]) h1
          have m2 := same_upd (o := .tup [.int 0, .int 1]) h2
          have m12 := m1.trans m2
          refine ⟨_, rfl, p, q, cells, rfl, hS'.on m12, fun v s G2 hv gs S2 X2 => ⟨three, fun u hu => ?_⟩⟩
          have mu := same_upd (o := .lst [.ref a1, .ref a2, v]) hu
          have np : ∀ {b : Addr} {G : Hp}, G b = none → Src G p q cells → b ≠ p := fun {b G} h s z => by
            obtain ⟨u, e⟩ := s.at'
            rw [z, e] at h
            cases h
          have nu := np hu S2
          refine ⟨p, q, cells, .ref u, rfl, S2.on mu, .inl ⟨u, _, rfl, fun H' B => .inl (SqL.of ((B u nu).trans upd_same)), by show 0 < 3; decide, by show 3 < 1000000; decide, fun j x H4 hj S4 B4 => ?_⟩⟩
          have X4 : Ex p G' H4 := ((Ex.sm m12).trans X2).trans ((Ex.sm mu).trans (Ex.of B4))
          have hx4 := X4 _ _ nDp hx
          have z0 : ∀ {T : Addr} {G : Hp}, T ≠ p → H4 T = some (.tup [.int 0, .int 1]) → PairF p H4 (.ref T) (0, 1) := fun n h => ⟨_, rfl, n, h⟩
          have key : ∃ s, PairF p H4 x s ∧ Good s := by
            match j, hj with
            | 0, e => cases e; exact ⟨(0, 1), ⟨a1, rfl, np h1 hS', ((Ex.sm m2).trans (X2.trans ((Ex.sm mu).trans (Ex.of B4)))) _ _ (np h1 hS') upd_same⟩, ⟨rat_one 0, by decide, by decide, by decide⟩⟩
            | 1, e => cases e; exact ⟨(0, 1), ⟨a2, rfl, np h2 (hS'.on m1), (X2.trans ((Ex.sm mu).trans (Ex.of B4))) _ _ (np h2 (hS'.on m1)) upd_same⟩, ⟨rat_one 0, by decide, by decide, by decide⟩⟩
            | 2, e => cases e; exact ⟨s, hv.ex ((Ex.sm mu).trans (Ex.of B4)), gs⟩
            | n + 3, e => cases e
          obtain ⟨s', hs', gs'⟩ := key
          refine ⟨xs, hx4, ?_, xs ++ [x], ws ++ [s'], upd_same, by rw [List.length_append, hl]; rfl, Paired.snoc (PFs.off hx4 (hP.ex X4)) (hs'.off hx4), fun t ht => ?_, S4.off nDp nDq⟩
          · rw [hP.len, hl]
            exact Nat.lt_of_lt_of_le (show i < 4 by omega) (by decide)
          · rcases List.mem_append.mp ht with ht | ht
            · exact hg t ht
            · rw [List.mem_singleton.mp ht]
              exact gs'
        · rintro G1 ⟨xs, ws, hx, hl, hP, hg, S1'⟩
          refine ⟨_, rfl, p, q, cells, 4, rfl, S1', by decide, by decide, fun d2 Gb a1 c1 Sb Bb => ?_⟩
          refine ⟨d2, rfl, by omega, by omega, fun D2 hD2 => ?_⟩
          have Xb := Ex.of Bb
          have hxb := Xb _ _ nDp hx
          have n2p : D2 ≠ p := fun z => by
            obtain ⟨u, hu⟩ := Sb.at'
            rw [← z, hD2] at hu
            cases hu
          have n2q : D2 ≠ q := fun z => by
            have hu := Sb.cs
            rw [← z, hD2] at hu
            cases hu
          have nDD : D ≠ D2 := fun z => by
            rw [z, hD2] at hxb
            cases hxb
          have m2 := same_upd (o := .lst []) hD2
          refine lc_range (lo := 0) (n := d2.toNat) (fun i G' => ∃ (ys : List V) (ss : List (Int × Int)), G' D2 = some (.lst ys) ∧ ss.length = i ∧ PFs p G' ys ss ∧ (∀ s ∈ ss, Good s) ∧ Src G' p q cells ∧ G' D = some (.lst xs) ∧ PFs p G' xs ws)
            ⟨[], [], upd_same, rfl, .nil, (fun _ h => by cases h), Sb.on m2, m2 _ _ hxb, (hP.ex Xb).ex (Ex.sm m2)⟩ ?_ ?_
          · rintro i G' hi ⟨ys, ss, hy, hl2, hP2, hg2, hS', hD', hPx⟩
            refine ⟨rfl, ?_⟩
            refine ⟨_, rfl, p, q, cells, rfl, hS', fun v s G2 hv gs S2 X2 => ⟨ys, X2 _ _ n2p hy, ?_, ?_⟩⟩
            · rw [hP2.len, hl2]
              exact Nat.lt_of_lt_of_le (show i < 4 by omega) (by decide)
            · have hy2 := X2 _ _ n2p hy
              refine ⟨ys ++ [v], ss ++ [s], upd_same, by rw [List.length_append, hl2]; rfl, Paired.snoc (PFs.off hy2 (hP2.ex X2)) (hv.off hy2), fun t ht => ?_, S2.off n2p n2q, ?_, PFs.off hy2 (hPx.ex X2)⟩
              · rcases List.mem_append.mp ht with ht | ht
                · exact hg2 t ht
                · rw [List.mem_singleton.mp ht]
                  exact gs
              · rw [upd_ne nDD]
                exact X2 _ _ nDp hD'
          · rintro G2 ⟨ys, ss, hy, hl2, hP2, hg2, S2, hD', hPx⟩
            exact ⟨_, _, rfl, D, D2, xs, ys, ws, ss, _, _, _, _, _, _, _, _, _, _, rfl, nDp, n2p, hD', hy, hPx, hP2, hg, hg2, by omega, by omega, _, S2⟩
      clear S0
      rintro σ G ⟨l, l2, xs, ys, ws, ss, o2, o5, o6, o7, o8, o9, o10, o11, o12, o13, rfl, nl, nl2, hl, hl2, hx, hy, gw, gs, lw, ls, cells, S0⟩
      have fw : fit 2 (ratsD ws) = true := fit_rats (by omega)
      have fs : fit 2 (ratsD ss) = true := fit_rats (by omega)
      have ssm : ∀ {d : PyData}, Sm d → SeqAt.shaped d = true := fun h => h.shaped
      have smw : Sm (ratsD ws) := ⟨by simp only [ratsD, VG.sm]; exact rats_sm gw, by have := rats_dp ws; simp only [ratsD, PyData.depth]; omega, by have := rats_bk ws; simp only [ratsD, PyData.bulk]; omega⟩
      have sms : Sm (ratsD ss) := ⟨by simp only [ratsD, VG.sm]; exact rats_sm gs, by have := rats_dp ss; simp only [ratsD, PyData.depth]; omega, by have := rats_bk ss; simp only [ratsD, PyData.bulk]; omega⟩
      -- one, other; the mean; late items
      have npq : ∀ {G' : Hp} {b : Addr}, Src G' p q cells → G' b = none → b ≠ p ∧ b ≠ q := fun {G' b} s h => by
        refine ⟨fun z => ?_, fun z => ?_⟩
        · obtain ⟨u, e⟩ := s.at'
          rw [z, e] at h
          cases h
        · have e := s.cs
          rw [z, e] at h
          cases h
      refine ⟨_, rfl, l, xs, rfl, .inl (SqL.of hl), fun b1 h1 => ?_⟩
      have m1 := same_upd (o := .lst xs) h1
      refine ⟨_, rfl, l2, ys, rfl, .inl (SqL.of (m1 _ _ hl2)), fun b2 h2 => ⟨_, _, rfl, ?_⟩⟩
      have m2 := same_upd (o := .lst ys) h2
      have m12 := m1.trans m2
      have hb1 : (upd (upd G b1 (.lst xs)) b2 (.lst ys)) b1 = some (.lst xs) := m2 _ _ upd_same
      have hb2 : (upd (upd G b1 (.lst xs)) b2 (.lst ys)) b2 = some (.lst ys) := upd_same
      have S12 := S0.on m12
      have nb1 := npq S0 h1
      have nb2 := npq (S0.on m1) h2
      have n12 : b1 ≠ b2 := fun z => by
        rw [← z, upd_same] at h2
        cases h2
      have nl1 : l ≠ b1 := fun z => by rw [z, h1] at hl; cases hl
      have nl21 : l2 ≠ b1 := fun z => by rw [z, h1] at hl2; cases hl2
      have nlb2 : l ≠ b2 := fun z => by
        have e := m1 _ _ hl
        rw [z, h2] at e
        cases e
      have nl2b2 : l2 ≠ b2 := fun z => by
        have e := m1 _ _ hl2
        rw [z, h2] at e
        cases e
      generalize hG2 : upd (upd G b1 (.lst xs)) b2 (.lst ys) = G2 at *
      have hx2 := hx.ex (Ex.sm m12)
      have hy2 := hy.ex (Ex.sm m12)
      refine ⟨_, rfl, _, rfl, rfl, rfl, fun m dx hm hdx ne => made hm hdx ne (PFs.dp hb1 hx2) (PFs.dp hb2 hy2) fw fs fun G3 m3 hn => ?_⟩
      have hb13 := m3 _ _ hb1
      have hb23 := m3 _ _ hb2
      have S3 := S12.on m3
      refine ⟨_, rfl, .inl ⟨rfl, _, .inl (.inl hb13)⟩, b1, _, _, rfl, rfl, hb13, by rw [hx.len]; exact Nat.lt_of_lt_of_le (show ws.length < 4 by omega) (by decide), ?_⟩
      have hx3 := hx2.ex (Ex.sm m3)
      have hy3 := hy2.ex (Ex.sm m3)
      have hl3 := m3 _ _ (m12 _ _ hl)
      have hl23 := m3 _ _ (m12 _ _ hl2)
      refine ⟨fun σ G => ∃ (m : Addr) (o2 o5 o6 o7 o9 o10 o11 o12 o13 : Option V), σ = [some (.ref a), some (.ref p), o2, some (.ref l), some (.ref l2), o5, o6, o7, some (.ref m), o9, o10, o11, o12, o13] ∧ Fc K C p q G l l2 m xs ys ws ss, ?_, ?_⟩
      · have hb24 : (upd G3 b1 (.lst (xs ++ [.str "late"]))) b2 = some (.lst ys) := by
          rw [upd_ne n12.symm]
          exact hb23
        refine ⟨_, rfl, .inl ⟨rfl, _, .inl (.inl hb24)⟩, b2, _, _, rfl, rfl, hb24, by rw [hy.len]; exact Nat.lt_of_lt_of_le (show ss.length < 4 by omega) (by decide), ?_⟩
        refine ⟨m, _, _, _, _, _, _, _, _, _, rfl, ?_, nl, PFs.off hb24 (PFs.off hb13 hx3), ?_, nl2, PFs.off hb24 (PFs.off hb13 hy3), ?_, cells, (S3.off nb1.1 nb1.2).off nb2.1 nb2.2⟩
        · rw [upd_ne nlb2, upd_ne nl1]
          exact hl3
        · rw [upd_ne nl2b2, upd_ne nl21]
          exact hl23
        · obtain ⟨u, hu⟩ := S12.at'
          exact ((hn.upd hb1).upd hb2).f hu
      clear hG2 m1 m2 m12 hb1 hb2 S12 nb1 nb2 hx2 hy2 hl hl2 hx hy h1 h2 S0 npq
      rintro σ G ⟨m, o2, o5, o6, o7, o9, o10, o11, o12, o13, rfl, g0⟩
      -- twice
      refine ⟨fun σ G => ∃ (o2 o5 o6 o7 o9 o10 o11 o12 o13 : Option V), σ = [some (.ref a), some (.ref p), o2, some (.ref l), some (.ref l2), o5, o6, o7, some (.ref m), o9, o10, o11, o12, o13] ∧ Fc K C p q G l l2 m xs ys ws ss, ?_, ?_⟩
      · refine ⟨2, rfl, by decide, by decide, for_range (lo := 0) (n := 2) (fun i σ G => ∃ (o2 o5 o6 o7 o9 o10 o11 o12 o13 : Option V), σ = [some (.ref a), some (.ref p), o2, some (.ref l), some (.ref l2), o5, o6, o7, some (.ref m), o9, o10, o11, o12, o13] ∧ Fc K C p q G l l2 m xs ys ws ss)
          ⟨_, _, _, _, _, _, _, _, _, rfl, g0⟩ ?_ (fun σ G h => h)⟩
        rintro j σ G hj ⟨o2, o5, o6, o7, o9, o10, o11, o12, o13, rfl, g1⟩
        obtain ⟨rl1, rl2, rl3, rl4, rl5⟩ := repr_law ws.length (by omega)
        have z0 : (0 : Nat) ≤ sizeLine := by decide
        -- what is due
        refine ⟨fun σ G => ∃ (u : Addr) (o2 o5 o6 o7 o9 o11 o12 o13 : Option V), σ = [some (.ref a), some (.ref p), o2, some (.ref l), some (.ref l2), o5, o6, o7, some (.ref m), o9, some (.ref u), o11, o12, o13] ∧ Dp K G (.ref u) (.list [ratsD ws, ratsD ss, .bool (voidD (ratsD ws)), .str (lawM ws.length)]) ∧ Fc K C p q G l l2 m xs ys ws ss, ?_, ?_⟩
        · refine ⟨_, rfl, _, rfl, _, rfl, l, rfl, ⟨xs, SqL.of g1.hl⟩, fun D hD => ?_⟩
          have nDp : D ≠ p := fun z => by
            obtain ⟨c, s⟩ := g1.src
            obtain ⟨u, hu⟩ := s.at'
            rw [← z, hD] at hu
            cases hu
          refine lc_list (K := K) (a := l) (xs := xs) (fun i G' => ∃ zs : List V, Same G G' ∧ G' D = some (.lst zs) ∧ zs.length ≤ i ∧ PFs p G' zs ((ws.take i).filter nz)) ⟨[], same_upd hD, upd_same, Nat.le_refl _, .nil⟩ (fun i G' _ ⟨_, sm, _⟩ => SqL.of (sm _ _ g1.hl)) ?_ ?_
          · rintro i v G' hv ⟨zs, sm, hz, lz, hP⟩
            obtain ⟨t, ht, hvt⟩ := g1.hx.get hv
            have hi : i < ws.length := (List.getElem?_eq_some_iff.mp ht).1
            have et : (ws.take (i + 1)).filter nz = (ws.take i).filter nz ++ (if nz t = true then [t] else []) := by
              rw [List.take_add_one, ht]
              show List.filter nz (ws.take i ++ [t]) = _
              rw [List.filter_append, List.filter_cons, List.filter_nil]
            have hvG := hvt.ex (Ex.sm sm)
            refine ⟨rfl, _, rfl, two, fun T hT => ?_⟩
            have mT := same_upd (o := .tup [.int 0, .int 1]) hT
            have hv2 := hvG.ex (Ex.sm mT)
            refine ⟨ratT t, ratT (0, 1), hv2.dp, .tup (SqT.of upd_same) (.cons (.int _) (.cons (.int _) .nil)), ssm ⟨rat_sm (gw t (List.mem_of_getElem? ht)), by simp [ratT, PyData.depth, PyData.depthAll], by simp [ratT, PyData.bulk, PyData.bulkAll]⟩, by decide +kernel, _, rfl, ?_⟩
            have smT := sm.trans mT
            refine ite2 (fun hb => ?_) (fun hb => ?_)
            · have hb : nz t = true := hb
              refine ⟨_, rfl, zs, mT _ _ hz, Nat.lt_of_lt_of_le (show zs.length < 4 by omega) (by decide), zs ++ [v], fun b o h => ?_, upd_same, by rw [List.length_append]; exact Nat.succ_le_succ lz, ?_⟩
              · rw [upd_ne (ne_of_none h hD)]
                exact smT _ _ h
              · rw [et, if_pos hb]
                exact Paired.snoc (PFs.off (mT _ _ hz) (hP.ex (Ex.sm mT))) (hv2.off (mT _ _ hz))
            · have hb : ¬ nz t = true := hb
              refine ⟨zs, smT, mT _ _ hz, Nat.le_succ_of_le lz, ?_⟩
              rw [et, if_neg hb, List.append_nil]
              exact hP.ex (Ex.sm mT)
          · rintro G' ⟨zs, sm, hz, lz, hP⟩
            rw [g1.hx.len, List.take_length] at hP
            refine ⟨z0, fun e he => ?_⟩
            have me := same_upd (o := .lst []) he
            have lf : (ws.filter nz).length ≤ 3 := Nat.le_trans (List.length_filter_le _ _) lw
            have gf : ∀ s ∈ ws.filter nz, Good s := fun s hs => gw s (List.mem_filter.mp hs).1
            have smf : Sm (.list ((ws.filter nz).map ratT)) := ⟨by simp only [VG.sm]; exact rats_sm gf, by have := rats_dp (ws.filter nz); simp only [PyData.depth]; omega, by have := rats_bk (ws.filter nz); simp only [PyData.bulk]; omega⟩
            refine ⟨.list ((ws.filter nz).map ratT), .list [], .lst (SqL.of (me _ _ hz)) (PFs.all (hP.ex (Ex.sm me))), .lst (SqL.of upd_same) .nil, smf.shaped, by decide +kernel, ?_⟩
            rw [← void_eq gw]
            have hlE := me _ _ (sm _ _ g1.hl)
            refine ⟨_, rfl, l, xs, rfl, .inl (SqL.of hlE), ?_⟩
            rw [g1.hx.len]
            refine ⟨_, rfl, (repr_len ws.length (by omega)).2.2.2, _, _, rfl, rfl, rl4, _, _, rfl, rfl, rl5, four, fun u hu => ?_⟩
            have mu := same_upd (o := .lst [.ref l, .ref l2, .bl (voidD (ratsD ws)), .str (lawM ws.length)]) hu
            have sAll := (sm.trans me).trans mu
            have gE := g1.same sAll
            exact ⟨u, _, _, _, _, _, _, _, _, rfl, .lst (SqL.of upd_same) (.cons (PFs.dp gE.hl gE.hx) (.cons (PFs.dp gE.hl2 gE.hy) (.cons (.bl _) (.cons (.str _) .nil)))), gE⟩
        clear g1
        rintro σ G ⟨u, o2, o5, o6, o7, o9, o11, o12, o13, rfl, hu, g1⟩
        -- the same
        refine ⟨fun σ G => ∃ (o2 o5 o6 o7 o9 o10 o11 o12 o13 : Option V), σ = [some (.ref a), some (.ref p), o2, some (.ref l), some (.ref l2), o5, o6, o7, some (.ref m), o9, o10, o11, o12, o13] ∧ Fc K C p q G l l2 m xs ys ws ss, ?_, ?_⟩
        · obtain ⟨dx, fx, fy, hm, hmx, hmy⟩ := g1.mean.at_
          refine ⟨_, rfl, m, dx, _, rfl, hm, flds_no _ _ (by decide +kernel) (by decide +kernel), m, dx, fx, fy, fx, ratsD ws, rfl, hm, flds_w _ _, hmx, fw, fun z1 G1 m1 hz1 _ => ?_⟩
          refine ⟨_, rfl, m, dx, _, rfl, m1 _ _ hm, flds_no _ _ (by decide +kernel) (by decide +kernel), m, dx, fx, fy, fy, ratsD ss, rfl, m1 _ _ hm, flds_s _ _, Dp.same m1 _ _ hmy, fs, fun z2 G2 m2 hz2 _ => ?_⟩
          have m12 := m1.trans m2
          refine ⟨_, rfl, m, dx, _, rfl, m12 _ _ hm, flds_no _ _ (by decide +kernel) (by decide +kernel), m, dx, fx, fy, ratsD ws, rfl, m12 _ _ hm, Dp.same m12 _ _ hmx, fw, (fun ds z => by cases z), fun G3 m3 => ?_⟩
          have m123 := m12.trans m3
          refine ⟨_, rfl, m, dx, _, rfl, m123 _ _ hm, m, ratsD ws, ratsD ss, rfl, ⟨dx, fx, fy, m123 _ _ hm, Dp.same m123 _ _ hmx, Dp.same m123 _ _ hmy⟩, ?_, fun G4 m4 => ⟨⟨_, rfl⟩, four, fun L hL => ?_⟩⟩
          · show (ws.map ratT).length ≤ 10
            rw [List.length_map]
            omega
          have el : lenD (ratsD ws) = ws.length := List.length_map ..
          rw [el, rl1]
          have mL := same_upd (o := .lst [z1, z2, .bl (voidD (ratsD ws)), .str (lawM ws.length)]) hL
          have d1 := Dp.same (((m2.trans m3).trans m4).trans mL) _ _ (Dp.same newer_sub _ _ hz1)
          have d2 := Dp.same ((m3.trans m4).trans mL) _ _ (Dp.same newer_sub _ _ hz2)
          have sAll := ((m123.trans m4).trans mL)
          have smD : Sm (.list [ratsD ws, ratsD ss, .bool (voidD (ratsD ws)), .str (lawM ws.length)]) := ⟨by simp only [VG.sm, VG.smAll, smw.sm, sms.sm, rl2, Bool.and_self], by have h1 := smw.dp; have h2 := sms.dp; have := rats_dp ws; have := rats_dp ss; simp only [ratsD, PyData.depth, PyData.depthAll] at *; omega, by have := rats_bk ws; have := rats_bk ss; simp only [ratsD, PyData.bulk, PyData.bulkAll]; omega⟩
          have eq : decide ((PyData.list [ratsD ws, ratsD ss, .bool (voidD (ratsD ws)), .str (lawM ws.length)]).shown = (PyData.list [ratsD ws, ratsD ss, .bool (voidD (ratsD ws)), .str (lawM ws.length)]).shown) = true := decide_eq_true rfl
          refine ⟨_, rfl, .ref L, .ref u, _, _, rfl, .lst (SqL.of upd_same) (.cons d1 (.cons d2 (.cons (.bl _) (.cons (.str _) .nil)))), Dp.same sAll _ _ hu, smD, smD, _, rfl, ?_⟩
          rw [eq]
          exact iteF ⟨_, _, _, _, _, _, _, _, _, rfl, g1.same sAll⟩
        clear g1 hu
        rintro σ G ⟨o2, o5, o6, o7, o9, o10, o11, o12, o13, rfl, g1⟩
        obtain ⟨dx, fx, fy, hm, hmx, hmy⟩ := g1.mean.at_
        refine ⟨_, rfl, m, dx, _, rfl, hm, flds_no _ _ (by decide +kernel) (by decide +kernel), m, dx, fx, fy, fx, ratsD ws, rfl, hm, flds_w _ _, hmx, fw, fun z1 G1 m1 hz1 tz1 => ?_⟩
        obtain ⟨a1, zs, rfl, ha1, la1⟩ := tz1 _ rfl
        have ha1' := newer_sub _ _ ha1
        have na1 : G a1 = none := by
          cases e : G a1 with
          | none => rfl
          | some o =>
            rw [newer_none e] at ha1
            cases ha1
        rw [List.length_map] at la1
        refine ⟨.inl ⟨rfl, _, .inl (.inl ha1')⟩, a1, _, _, rfl, rfl, ha1', Nat.lt_of_lt_of_le (show zs.length < 4 by omega) (by decide), ?_⟩
        have mB : Same G (upd G1 a1 (.lst (zs ++ [.str "zz"]))) := fun b o h => by
          rw [upd_ne (ne_of_none h na1)]
          exact m1 _ _ h
        generalize upd G1 a1 (.lst (zs ++ [.str "zz"])) = GB at *
        refine ⟨_, rfl, m, dx, _, rfl, mB _ _ hm, flds_no _ _ (by decide +kernel) (by decide +kernel), m, dx, fx, fy, fy, ratsD ss, rfl, mB _ _ hm, flds_s _ _, Dp.same mB _ _ hmy, fs, fun z2 G2 m2 hz2 tz2 => ?_⟩
        obtain ⟨a2, zs2, rfl, ha2, la2⟩ := tz2 _ rfl
        have ha2' := newer_sub _ _ ha2
        have na2 : GB a2 = none := by
          cases e : GB a2 with
          | none => rfl
          | some o =>
            rw [newer_none e] at ha2
            cases ha2
        rw [List.length_map] at la2
        refine ⟨.inl ⟨rfl, _, .inl (.inl ha2')⟩, a2, _, _, rfl, rfl, ha2', Nat.lt_of_lt_of_le (show zs2.length < 4 by omega) (by decide), ?_⟩
        exact ⟨_, _, _, _, _, _, _, _, _, rfl, g1.same fun b o h => by
          rw [upd_ne (ne_of_none (mB _ _ h) na2)]
          exact m2 _ _ (mB _ _ h)⟩
      clear g0
      rintro σ G ⟨o2, o5, o6, o7, o9, o10, o11, o12, o13, rfl, g0⟩
      -- another value
      refine ⟨fun σ G => ∃ (x : V) (d : PyData) (o2 o5 o6 o7 o9 o10 o11 o13 : Option V), σ = [some (.ref a), some (.ref p), o2, some (.ref l), some (.ref l2), o5, o6, o7, some (.ref m), o9, o10, o11, some x, o13] ∧ (∀ H : Hp, Dp K H x d) ∧ listD d = d ∧ fit 2 d = true ∧ voidD d = false ∧ lenD d = 0 ∧ (VG.sm d = true ∧ d.depth ≤ 5 ∧ d.bulk ≤ 100) ∧ (∀ ds, d ≠ .tuple ds) ∧ Fc K C p q G l l2 m xs ys ws ss, ?_, ?_⟩
      · obtain ⟨cells, S0⟩ := g0.src
        refine ⟨_, rfl, four, fun u hu => ?_⟩
        have mu := same_upd (o := .lst [.non, .int 3, .str "ab", .bl true]) hu
        have nu : u ≠ p := fun z => by
          obtain ⟨y, e⟩ := S0.at'
          rw [← z, hu] at e
          cases e
        refine ⟨p, q, cells, .ref u, rfl, S0.on mu, .inl ⟨u, _, rfl, fun H' B => .inl (SqL.of ((B u nu).trans upd_same)), by show 0 < 4; decide, by show 4 < 1000000; decide, fun i x H4 hx S4 B4 => ?_⟩⟩
        have gE := (g0.same mu).ex (Ex.of B4) S4
        match i, hx with
        | 0, e => cases e; exact ⟨.non, .none, _, _, _, _, _, _, _, _, rfl, fun _ => .non, rfl, rfl, rfl, rfl, ⟨by decide +kernel, by decide +kernel, by decide +kernel⟩, fun ds z => (by cases z), gE⟩
        | 1, e => cases e; exact ⟨.int 3, .int 3, _, _, _, _, _, _, _, _, rfl, fun _ => .int _, rfl, rfl, rfl, rfl, ⟨by decide +kernel, by decide +kernel, by decide +kernel⟩, fun ds z => (by cases z), gE⟩
        | 2, e => cases e; exact ⟨.str "ab", .str "ab", _, _, _, _, _, _, _, _, rfl, fun _ => .str _, rfl, rfl, rfl, rfl, ⟨by decide +kernel, by decide +kernel, by decide +kernel⟩, fun ds z => (by cases z), gE⟩
        | 3, e => cases e; exact ⟨.bl true, .bool true, _, _, _, _, _, _, _, _, rfl, fun _ => .bl _, rfl, rfl, rfl, rfl, ⟨by decide +kernel, by decide +kernel, by decide +kernel⟩, fun ds z => (by cases z), gE⟩
        | n + 4, e => cases e
      clear g0
      rintro σ G ⟨x, d, o2, o5, o6, o7, o9, o10, o11, o13, rfl, hd, ld, fd', vd, le, smd, nt, g0⟩
      -- a mean of it
      refine ⟨fun σ G => ∃ (m2 : Addr) (o2 o5 o6 o7 o9 o10 o11 : Option V), σ = [some (.ref a), some (.ref p), o2, some (.ref l), some (.ref l2), o5, o6, o7, some (.ref m), o9, o10, o11, some x, some (.ref m2)] ∧ MeanAt K C G m2 d (ratsD ss) ∧ Fc K C p q G l l2 m xs ys ws ss, ?_, ?_⟩
      · refine ⟨_, rfl, _, rfl, l2, ys, rfl, .inl ⟨SqL.of g0.hl2, fun t ht => ?_⟩⟩
        have mt := same_upd (o := .tup ys) ht
        have gt := g0.same mt
        have ft : fit 2 (.tuple (ss.map ratT)) = true := fs
        refine fun m2 dx hm hdx ne => made hm hdx ne (hd _) (.tup (SqT.of upd_same) gt.hy.all) fd' ft fun G' sm hn => ?_
        rw [ld] at hn
        exact ⟨m2, _, _, _, _, _, _, _, rfl, hn.at_, gt.same sm⟩
      clear g0
      rintro σ G ⟨m2, o2, o5, o6, o7, o9, o10, o11, rfl, h2, g0⟩
      -- what it tells
      refine ⟨fun σ G => ∃ (o2 o5 o6 o7 o9 o10 o11 o12 o13 : Option V), σ = [some (.ref a), some (.ref p), o2, some (.ref l), some (.ref l2), o5, o6, o7, some (.ref m), o9, o10, o11, o12, o13] ∧ Fc K C p q G l l2 m xs ys ws ss, ?_, ?_⟩
      · obtain ⟨dx, fx, fy, hm, hmx, hmy⟩ := h2
        refine ⟨_, rfl, m2, dx, _, rfl, hm, flds_no _ _ (by decide +kernel) (by decide +kernel), m2, dx, fx, fy, fx, d, rfl, hm, flds_w _ _, hmx, fd', fun z1 G1 m1 hz1 _ => ?_⟩
        refine ⟨_, rfl, m2, dx, _, rfl, m1 _ _ hm, flds_no _ _ (by decide +kernel) (by decide +kernel), m2, dx, fx, fy, fy, ratsD ss, rfl, m1 _ _ hm, flds_s _ _, Dp.same m1 _ _ hmy, fs, fun z2 G2 m2' hz2 _ => ?_⟩
        have m12 := m1.trans m2'
        refine ⟨_, rfl, m2, dx, _, rfl, m12 _ _ hm, flds_no _ _ (by decide +kernel) (by decide +kernel), m2, dx, fx, fy, d, rfl, m12 _ _ hm, Dp.same m12 _ _ hmx, fd', nt, fun G3 m3 => ?_⟩
        have m123 := m12.trans m3
        refine ⟨_, rfl, m2, dx, _, rfl, m123 _ _ hm, m2, d, ratsD ss, rfl, ⟨dx, fx, fy, m123 _ _ hm, Dp.same m123 _ _ hmx, Dp.same m123 _ _ hmy⟩, by rw [le]; decide, fun G4 m4 => ⟨⟨_, rfl⟩, ?_⟩⟩
        rw [vd, le]
        have m1234 := m123.trans m4
        have g4 := g0.same m1234
        refine ⟨_, rfl, l, xs, rfl, .inl ⟨SqL.of g4.hl, fun t ht => ?_⟩⟩
        have mt := same_upd (o := .tup xs) ht
        have gt := g4.same mt
        have ft : fit 2 (.tuple (ws.map ratT)) = true := fw
        refine ⟨_, rfl, fun m3' dx3 hm3 hdx3 ne3 => made hm3 hdx3 ne3 (.tup (SqT.of upd_same) gt.hx.all) (hd _) ft fd' fun G5 m5 hn => ?_⟩
        have hn : MeanNew K C _ G5 m3' (ratsD ws) (listD d) := hn
        obtain ⟨dy, gx, gy, hm5, hgx, hgy⟩ := hn.at_
        refine ⟨m3', dy, _, rfl, hm5, flds_no _ _ (by decide +kernel) (by decide +kernel), m3', dy, gx, gy, gx, ratsD ws, rfl, hm5, flds_w _ _, hgx, fw, fun z5 G6 m6 hz5 _ => ⟨five, fun L hL => ?_⟩⟩
        have mL := same_upd (o := .lst [z1, z2, .bl false, .str (reprM 0), z5]) hL
        have mE := (m5.trans m6).trans mL
        have mtE := mt.trans mE
        have gE := gt.same mE
        refine ⟨_, rfl, _, rfl, _, rfl, five, fun L2 hL2 => ?_⟩
        have mL2 := same_upd (o := .lst [x, .ref l2, .bl false, .str "Mean(0 forms)", .ref l]) hL2
        have gF := gE.same mL2
        have d1 := Dp.same ((((m2'.trans m3).trans m4).trans mtE).trans mL2) _ _ (Dp.same newer_sub _ _ hz1)
        have d2 := Dp.same (((m3.trans m4).trans mtE).trans mL2) _ _ (Dp.same newer_sub _ _ hz2)
        have d5 := Dp.same (mL.trans mL2) _ _ (Dp.same newer_sub _ _ hz5)
        have r0 : reprM 0 = ("Mean(0 forms)" : Str) := by decide +kernel
        have dueD := due2_sm smd gw gs (by omega) (by omega)
        have eq : decide ((PyData.list [d, ratsD ss, .bool false, .str "Mean(0 forms)", ratsD ws]).shown = (PyData.list [d, ratsD ss, .bool false, .str "Mean(0 forms)", ratsD ws]).shown) = true := decide_eq_true rfl
        refine ⟨.ref L, .ref L2, _, _, rfl, .lst (SqL.of (mL2 _ _ upd_same)) (.cons d1 (.cons d2 (.cons (.bl _) (.cons (by rw [r0]; exact .str _) (.cons d5 .nil))))), .lst (SqL.of upd_same) (.cons (hd _) (.cons (PFs.dp gF.hl2 gF.hy) (.cons (.bl _) (.cons (.str _) (.cons (PFs.dp gF.hl gF.hx) .nil))))), dueD, dueD, _, rfl, ?_⟩
        rw [eq]
        exact iteF ⟨_, _, _, _, _, _, _, _, _, rfl, gF⟩
      clear g0 h2
      rintro σ G ⟨o2, o5, o6, o7, o9, o10, o11, o12, o13, rfl, g0⟩
      -- equal and not
      have ew := eqv_ratsD ws
      have es := eqv_ratsD ss
      have cat : ∀ {G' : Hp} {t b : Addr} {xs : List V} {ws : List (Int × Int)} {z : Int × Int}, PFs p G' xs ws → G' t = some (.tup [.int z.1, .int z.2]) → G' b = some (.lst (xs ++ [.ref t])) → Dp K G' (.ref b) (ratsD (ws ++ [z])) := fun {G' t b xs ws z} h ht hb => by
        refine .lst (SqL.of hb) ?_
        rw [List.map_append]
        exact DpAll.snoc (.tup (SqT.of ht) (.cons (.int _) (.cons (.int _) .nil))) h.all
      have fit1 : ∀ {ws : List (Int × Int)} {z : Int × Int}, ws.length ≤ 3 → fit 2 (ratsD (ws ++ [z])) = true := fun {ws z} h => fit_rats (by rw [List.length_append]; show ws.length + 1 ≤ 1000; omega)
      have sh1 := (ratsD_sm (more_good gw) (by rw [List.length_append]; show ws.length + 1 ≤ 100; omega)).shaped
      have sh2 := (ratsD_sm (zero_good gs) (by rw [List.length_append]; show ss.length + 1 ≤ 100; omega)).shaped
      have shw := smw.shaped
      have shs := sms.shaped
      obtain ⟨dx, fx, fy, hm, hmx, hmy⟩ := g0.mean.at_
      have mAt : ∀ {G' : Hp}, Same G G' → MeanAt K C G' m (ratsD ws) (ratsD ss) := fun s => g0.mean.at_.same s
      refine ⟨_, rfl, _, rfl, _, rfl, fun x1 dx1 h1 hd1 ne1 => made h1 hd1 ne1 (PFs.dp g0.hl g0.hx) (PFs.dp g0.hl2 g0.hy) fw fs fun G1 s1 n1 => ?_⟩
      have n1 : MeanNew K C _ G1 x1 (ratsD ws) (ratsD ss) := n1
      obtain ⟨e1, _, _, i1, _, _⟩ := id n1.at_
      refine ⟨m, _, _, .ref C, rfl, s1 _ _ hm, T.ins.ty T.cls.cl i1, T.nfc, m, .ref x1, ratsD ws, ratsD ss, rfl, mAt s1, .inl ⟨x1, _, _, rfl, n1.at_, ⟨shw, shs, shw, shs⟩, ?_⟩⟩
      rw [ew, es]
      have g1 := g0.same s1
      refine ⟨_, rfl, _, rfl, _, rfl, fun x2 dx2 h2 hd2 ne2 => made h2 hd2 ne2 (PFs.dp g1.hl g1.hx) (PFs.dp g1.hl2 g1.hy) fw fs fun G2 s2 n2 => ?_⟩
      have n2 : MeanNew K C _ G2 x2 (ratsD ws) (ratsD ss) := n2
      obtain ⟨e2, _, _, i2, _, _⟩ := id n2.at_
      have s12 := s1.trans s2
      refine ⟨m, _, _, x2, _, _, rfl, rfl, s12 _ _ hm, i2, m, .ref x2, ratsD ws, ratsD ss, rfl, mAt s12, .inl ⟨x2, _, _, rfl, n2.at_, ⟨shw, shs, shw, shs⟩, ?_⟩⟩
      rw [ew, es]
      refine ⟨_, rfl, ?_⟩
      have g2 := g1.same s2
      refine ⟨_, rfl, _, rfl, two, fun t ht => ⟨one, fun b hb => ?_⟩⟩
      have mt := same_upd (o := .tup [.int 1, .int 1]) ht
      have mb := same_upd (o := .lst [.ref t]) hb
      have mtb := mt.trans mb
      have g3 := g2.same mtb
      refine ⟨l, b, xs, [.ref t], rfl, rfl, g3.hl, upd_same, by rw [g3.hx.len]; exact Nat.le_trans (show ws.length + 1 ≤ 4 by omega) four, fun c hc => ?_⟩
      have mc := same_upd (o := .lst (xs ++ [.ref t])) hc
      have g4 := g3.same mc
      refine ⟨_, rfl, fun x3 dx3 h3 hd3 ne3 => made h3 hd3 ne3 (cat (z := (1, 1)) g4.hx (mc _ _ (mb _ _ upd_same)) upd_same) (PFs.dp g4.hl2 g4.hy) (fit1 lw) fs fun G5 s5 n5 => ?_⟩
      have n5 : MeanNew K C _ G5 x3 (ratsD (ws ++ [(1, 1)])) (ratsD ss) := n5
      obtain ⟨e5, _, _, i5, _, _⟩ := id n5.at_
      have s25 := (mtb.trans mc).trans s5
      have s05 := s12.trans s25
      refine ⟨m, _, _, .ref C, rfl, s05 _ _ hm, T.ins.ty T.cls.cl i5, T.nfc, m, .ref x3, ratsD ws, ratsD ss, rfl, mAt s05, .inl ⟨x3, _, _, rfl, n5.at_, ⟨shw, shs, sh1, shs⟩, ?_⟩⟩
      rw [eqv_moreD, Bool.false_and]
      have g5 := g4.same s5
      refine ⟨_, rfl, _, rfl, _, rfl, two, fun t' ht' => ⟨one, fun b' hb' => ?_⟩⟩
      have mt' := same_upd (o := .tup [.int 0, .int 1]) ht'
      have mb' := same_upd (o := .lst [.ref t']) hb'
      have mtb' := mt'.trans mb'
      have g6 := g5.same mtb'
      refine ⟨l2, b', ys, [.ref t'], rfl, rfl, g6.hl2, upd_same, by rw [g6.hy.len]; exact Nat.le_trans (show ss.length + 1 ≤ 4 by omega) four, fun c' hc' => ?_⟩
      have mc' := same_upd (o := .lst (ys ++ [.ref t'])) hc'
      have g7 := g6.same mc'
      refine fun x4 dx4 h4 hd4 ne4 => made h4 hd4 ne4 (PFs.dp g7.hl g7.hx) (cat (z := (0, 1)) g7.hy (mc' _ _ (mb' _ _ upd_same)) upd_same) fw (fit1 ls) fun G8 s8 n8 => ?_
      have n8 : MeanNew K C _ G8 x4 (ratsD ws) (ratsD (ss ++ [(0, 1)])) := n8
      obtain ⟨e8, _, _, i8, _, _⟩ := id n8.at_
      have s58 := (mtb'.trans mc').trans s8
      have s08 := s05.trans s58
      refine ⟨m, _, _, .ref C, rfl, s08 _ _ hm, T.ins.ty T.cls.cl i8, T.nfc, m, .ref x4, ratsD ws, ratsD ss, rfl, mAt s08, .inl ⟨x4, _, _, rfl, n8.at_, ⟨shw, shs, shw, sh2⟩, ?_⟩⟩
      rw [eqv_moreD, Bool.and_false]
      have g8 := g7.same s8
      refine ⟨_, rfl, _, rfl, m, _, _, .type "list", rfl, s08 _ _ hm, tyx_list (SqL.of g8.hl), T.nf, m, .ref l, ratsD ws, ratsD ss, rfl, mAt s08, .inr ⟨ws.map ratT, PFs.dp g8.hl g8.hx, ?_⟩⟩
      refine ⟨five, fun L hL => ⟨five, fun L2 hL2 => ?_⟩⟩
      have mL := same_upd (o := .lst [.bl (true && true), .bl (!(true && true)), .bl false, .bl false, .bl false]) hL
      have mL2 := same_upd (o := .lst [.bl true, .bl false, .bl false, .bl false, .bl false]) hL2
      refine ⟨.list [.bool true, .bool false, .bool false, .bool false, .bool false], .list [.bool true, .bool false, .bool false, .bool false, .bool false], .lst (SqL.of (mL2 _ _ upd_same)) (.cons (.bl _) (.cons (.bl _) (.cons (.bl _) (.cons (.bl _) (.cons (.bl _) .nil))))),
        .lst (SqL.of upd_same) (.cons (.bl _) (.cons (.bl _) (.cons (.bl _) (.cons (.bl _) (.cons (.bl _) .nil))))), by decide +kernel, by decide +kernel, _, rfl, ?_⟩
      have eq : PyData.eqv (.list [.bool true, .bool false, .bool false, .bool false, .bool false]) (.list [.bool true, .bool false, .bool false, .bool false, .bool false]) = true := by decide +kernel
      rw [eq]
      exact iteF ⟨_, _, _, _, _, _, _, _, _, _, _, _, rfl, (g8.same (mL.trans mL2)).src⟩
    · rintro σ G ⟨o2, o3, o4, o5, o6, o7, o8, o9, o10, o11, o12, o13, rfl, _⟩
      refine ⟨one, fun b1 h1 => ⟨by decide, fun b2 h2 => ?_⟩⟩
      have m2 := same_upd (o := .lst []) h2
      have d1 : Dp K _ (.ref b1) (.list [.none]) := .lst (SqL.of (m2 _ _ upd_same)) (.cons .non .nil)
      refine fun x dx hx hdx ne => made hx hdx ne d1 (.lst (SqL.of upd_same) .nil) (by decide +kernel) (by decide +kernel) fun G1 s1 n1 => ?_
      have n1 : MeanNew K C _ G1 x (.list [.none]) (.list []) := n1
      obtain ⟨dy, fx, fy, i1, i2, i3⟩ := n1.at_
      refine ⟨x, dy, _, rfl, i1, flds_no _ _ (by decide +kernel) (by decide +kernel), x, dy, fx, fy, .list [.none], rfl, i1, i2, by decide +kernel, (fun ds z => by cases z), fun G2 s2 => ⟨_, _, rfl, rfl, ?_⟩⟩
      exact k _
end
end Lw

set_option maxRecDepth 100000
set_option maxHeartbeats 0
namespace Lw
open PySem PySem.Spec PyProof.Rows L2 VG
abbrev R : PySem.W.OpenRow := PySem.W.OpenLaw.row PySem.Challenge.rw_missingmiles_k47_means_told
def glb (x : Str) (st : Stmt) (dfl : List He.Dv) : He.DefD := ⟨(x, none), x, x, defArgs st, defBody st, defScope st, dfl, []⟩
def mth (C m : Str) (st : Stmt) : He.DefD := ⟨(C, some m), m, C ++ "." ++ m, defArgs st, defBody st, defScope st, [], []⟩
def fns : List He.DefD := [glb "law" sLaw [],
  glb "_law_source" sSource [],
  glb "_law_draw" sDraw [],
  glb "_law_of" sOf [],
  glb "_law_same" sSame [],
  glb "_law_low" s__law_low [],
  glb "_law_length" s__law_length [],
  glb "_is_whole" s__is_whole [],
  glb "is_ratio" s_is_ratio [],
  glb "copied" s_copied [],
  glb "listed" s_listed [],
  glb "length_of" s_length_of [],
  mth "Mean" "__init__" mInit,
  mth "Mean" "weights" mWeights,
  mth "Mean" "sums" mSums,
  mth "Mean" "is_void" mVoid,
  mth "Mean" "__eq__" mEq,
  mth "Mean" "__repr__" mRepr]
def fas : List He.Fa := [.glo "law", .glo "_law_source", .glo "_law_draw", .glo "_law_of", .glo "_law_same", .glo "_law_low", .glo "_law_length", .glo "_is_whole", .glo "is_ratio", .glo "copied", .glo "listed", .glo "length_of", .mkr "Mean", .meth "Mean" "weights", .meth "Mean" "sums", .meth "Mean" "is_void", .meth "Mean" "__eq__", .meth "Mean" "__repr__", .glo "Mean", .cls "Mean", .noat "Mean" "_weights", .noat "Mean" "_sums", .free "int", .free "len", .free "list", .free "repr", .free "isinstance", .free "bool", .free "range", .free "tuple", .free "abs", .free "str", .free "all"]
def more (K : PySem.W.Frag) : Bool := neB K (He.ga K "Mean") (He.ma K (He.ga K "Mean") "__eq__") && (insB K (He.ga K "Mean") && (decide (PySem.W.kitOne K (.type "list") (.ref (He.ga K "Mean")) = some false) && (PySem.W.notFirst K (He.ga K "Mean") (.type "list") && (PySem.W.notFirst K (He.ga K "Mean") (.ref (He.ga K "Mean")) && decide (PySem.W.nsIn K mainGlobals "gcd" = some (some (.builtin "math.gcd")))))))
def ins : List IniD := []
def tfs : List He.Defn := []
abbrev hk : PySem.W.Hook := hookI 4 fas fns tfs more ins
def ob (s : PySem.W.SharedT) : AlI := obsI 4 fas fns tfs more ins (HandSHeadRun.getT s)
theorem ob_eq (s : PySem.W.SharedT) : ob s = hk.obs s.abs := obsI_eq (HandSHeadRun.getT_eq s)
def loose : List Str := ["gcd", "_law_source", "_law_draw", "_law_of", "_law_same", "_law_low", "_law_length", "_is_whole", "is_ratio", "copied", "listed", "length_of", "Mean", "_wall"]
theorem run (w : World) : HandSHeadRun.RunEqI R (PySem.W.view R.prog [0, 18]) hk ob 2000 loose w := by
  unfold HandSHeadRun.RunEqI
  kernel_rfl
end Lw

set_option maxRecDepth 100000
set_option maxHeartbeats 0
namespace Lw
open PySem PySem.Spec PyProof.Rows L2 VG
theorem vals_rev : ∀ {xs : List V} {us : List Value}, Vals xs us → Vals xs.reverse us.reverse
  | _, _, .nil => .nil
  | _, _, .cons r t => by
    rw [List.reverse_cons, List.reverse_cons]
    exact (vals_rev t).append (.cons r .nil)
abbrev L : PySem.W.OpenLaw := PySem.Challenge.rw_missingmiles_k47_means_told
theorem facts {w : World} {K : PySem.W.Frag} {h : Heap} {mg : Str → Option Value} {f : Addr} (X : K.In h) (G : h.Ns mainGlobals mg) (hfa : mg ("law" : Str) = some (.ref f)) (c : SaysI fas fns tfs more ins w h K) : LawG L w K CX0 7 63 "_law_script" mg f h := by
  have d := c.x.t.d
  have e := hfa.symm.trans (He.glo_ok X G (d.fact 0 (f := .glo "law") rfl))
  cases e
  have gl : ∀ {x : Str} (i : Nat), fas[i]? = some (.glo x) → mg x = some (.ref (He.ga K x)) := fun i hi => He.glo_ok X G (d.fact i hi)
  have fr : ∀ {x : Str} (i : Nat), fas[i]? = some (.free x) → mg x = none := fun i hi => He.free_ok X G (d.fact i hi)
  obtain ⟨fd0, F0⟩ := d.def_ 0 (d := glb "law" sLaw []) rfl
  obtain ⟨fd1, F1⟩ := d.def_ 1 (d := glb "_law_source" sSource []) rfl
  obtain ⟨fd2, F2⟩ := d.def_ 2 (d := glb "_law_draw" sDraw []) rfl
  obtain ⟨fd3, F3⟩ := d.def_ 3 (d := glb "_law_of" sOf []) rfl
  obtain ⟨fd4, F4⟩ := d.def_ 4 (d := glb "_law_same" sSame []) rfl
  obtain ⟨fd5, F5⟩ := d.def_ 5 (d := glb "_law_low" s__law_low []) rfl
  obtain ⟨fd6, F6⟩ := d.def_ 6 (d := glb "_law_length" s__law_length []) rfl
  obtain ⟨fd7, F7⟩ := d.def_ 7 (d := glb "_is_whole" s__is_whole []) rfl
  obtain ⟨fd8, F8⟩ := d.def_ 8 (d := glb "is_ratio" s_is_ratio []) rfl
  obtain ⟨fd9, F9⟩ := d.def_ 9 (d := glb "copied" s_copied []) rfl
  obtain ⟨fd10, F10⟩ := d.def_ 10 (d := glb "listed" s_listed []) rfl
  obtain ⟨fd11, F11⟩ := d.def_ 11 (d := glb "length_of" s_length_of []) rfl
  obtain ⟨fd12, F12⟩ := d.def_ 12 (d := mth "Mean" "__init__" mInit) rfl
  obtain ⟨fd13, F13⟩ := d.def_ 13 (d := mth "Mean" "weights" mWeights) rfl
  obtain ⟨fd14, F14⟩ := d.def_ 14 (d := mth "Mean" "sums" mSums) rfl
  obtain ⟨fd15, F15⟩ := d.def_ 15 (d := mth "Mean" "is_void" mVoid) rfl
  obtain ⟨fd16, F16⟩ := d.def_ 16 (d := mth "Mean" "__eq__" mEq) rfl
  obtain ⟨fd17, F17⟩ := d.def_ 17 (d := mth "Mean" "__repr__" mRepr) rfl
  have b0 := FunD.bindsA (ps := ["_law_script"]) F0 fun _ _ _ _ _ _ us hl => match us, hl with | [_], _ => rfl
  have b1 := FunD.bindsN (ps := ["_law_script"]) F1 fun _ _ _ _ _ _ us hl => match us, hl with | [_], _ => rfl
  have b2 := FunD.bindsN (ps := ["_law_src", "_law_many"]) F2 fun _ _ _ _ _ _ us hl => match us, hl with | [_, _], _ => rfl
  have b3 := FunD.bindsN (ps := ["_law_src", "_law_some"]) F3 fun _ _ _ _ _ _ us hl => match us, hl with | [_, _], _ => rfl
  have b4 := FunD.bindsN (ps := ["_law_found", "_law_due"]) F4 fun _ _ _ _ _ _ us hl => match us, hl with | [_, _], _ => rfl
  have b5 := FunD.bindsN (ps := ["_law_top", "_law_bottom"]) F5 fun _ _ _ _ _ _ us hl => match us, hl with | [_, _], _ => rfl
  have b6 := FunD.bindsN (ps := ["_law_src"]) F6 fun _ _ _ _ _ _ us hl => match us, hl with | [_], _ => rfl
  have b7 := FunD.bindsN (ps := ["value"]) F7 fun _ _ _ _ _ _ us hl => match us, hl with | [_], _ => rfl
  have b8 := FunD.bindsN (ps := ["value"]) F8 fun _ _ _ _ _ _ us hl => match us, hl with | [_], _ => rfl
  have b9 := FunD.bindsN (ps := ["value"]) F9 fun _ _ _ _ _ _ us hl => match us, hl with | [_], _ => rfl
  have b10 := FunD.bindsN (ps := ["value"]) F10 fun _ _ _ _ _ _ us hl => match us, hl with | [_], _ => rfl
  have b11 := FunD.bindsN (ps := ["value"]) F11 fun _ _ _ _ _ _ us hl => match us, hl with | [_], _ => rfl
  have b12 := FunD.bindsN (ps := ["self", "weights", "sums"]) F12 fun _ _ _ _ _ _ us hl => match us, hl with | [_, _, _], _ => rfl
  have b13 := FunD.bindsN (ps := ["self"]) F13 fun _ _ _ _ _ _ us hl => match us, hl with | [_], _ => rfl
  have b14 := FunD.bindsN (ps := ["self"]) F14 fun _ _ _ _ _ _ us hl => match us, hl with | [_], _ => rfl
  have b15 := FunD.bindsN (ps := ["self"]) F15 fun _ _ _ _ _ _ us hl => match us, hl with | [_], _ => rfl
  have b16 := FunD.bindsN (ps := ["self", "other"]) F16 fun _ _ _ _ _ _ us hl => match us, hl with | [_, _], _ => rfl
  have b17 := FunD.bindsN (ps := ["self"]) F17 fun _ _ _ _ _ _ us hl => match us, hl with | [_], _ => rfl
  obtain ⟨m1, m⟩ := He.ba c.x.more
  obtain ⟨m2, m⟩ := He.ba m
  obtain ⟨m3, m⟩ := He.ba m
  obtain ⟨m4, m⟩ := He.ba m
  obtain ⟨m5, m6⟩ := He.ba m
  have gg : mg "gcd" = some (.builtin "math.gcd") := PySem.W.mg_of X G (of_decide_eq_true m6)
  obtain ⟨i1, i2, i3, i4, i5⟩ := insB_ok m2
  have tN : Nm mg := ⟨(fr 22 rfl), (fr 23 rfl), (fr 24 rfl), (fr 25 rfl)⟩
  have tW : NmW mg := ⟨(fr 26 rfl), (fr 22 rfl), (fr 27 rfl)⟩
  have tR : NmR mg := ⟨tW, (fr 29 rfl), (fr 23 rfl), gg⟩
  have tC : NmC mg := ⟨(fr 26 rfl), (fr 24 rfl), (fr 29 rfl)⟩
  have tM : TxM K (He.ga K "Mean") := ⟨He.cls_ok (d.fact 19 rfl), He.noat_ok (d.fact 20 rfl), He.noat_ok (d.fact 21 rfl)⟩
  have tI : TxI K (He.ga K "Mean") := ⟨i1, i2, i3, i4, i5, of_decide_eq_true m3⟩
  have f0 : Fun K "law" "law" sLaw (He.ga K "law") fd0 := fun_of F0
  refine ⟨fd0, [], spLaw K, (fun p hp => by cases hp), (fun p hp => by cases hp), (fun p hp => by cases hp), fun s v => b0 s [v] rfl, fun H a ns hl _ hT hS => ⟨a, ns, rfl, hS, hl, fun _ => rfl⟩, fun base _ _ TB => ?_⟩
  have GD := ok_draw (P := L.prog) (w := w) (K := K) (base := base) (fun_of F2) tN
  have GLw := ok_low (P := L.prog) (w := w) (base := base) (fun_of F5) (fr 22 rfl) (fr 30 rfl)
  have GC1 := ok_copied (P := L.prog) (w := w) (base := base) (fun_of F9) tC (gl 9 rfl) b9 1
  have GC2 := copied_top (P := L.prog) (w := w) (base := base) (n := 2) (fun_of F9) tC (gl 9 rfl) b9 GC1
  have GL := ok_listed (P := L.prog) (w := w) (base := base) (n := 1) (fun_of F10) tC GC1 (gl 9 rfl) F9.kp b9
  have GI := ok_initM (P := L.prog) (w := w) (base := base) (n := 1) (fun_of F12) tM GL (gl 10 rfl) F10.kp b10
  have GRt := ok_isRat (P := L.prog) (w := w) (base := base) (fun_of F8) (fun_of F7) tR (gl 7 rfl) b7
  have kI := kbindsN (ps := ["self", "weights", "sums"]) F12 1 ["sums", "weights"] (fun us ws => us ++ ws.reverse) (fun r r2 => r.append (vals_rev r2)) fun _ _ _ _ _ _ us ws h1 h2 => match us, ws, h1, h2 with | [_], [_, _], _, _ => rfl
  refine ok_law (C := (He.ga K "Mean")) f0 ?_
  exact {
    src := ⟨_, _, ok_source (fun_of F1) tN, (gl 1 rfl), F1.kp, b1⟩
    draw := ⟨_, _, GD, (gl 2 rfl), F2.kp, b2⟩
    of_ := ⟨_, _, ok_of (fun_of F3) tN (fun_of F2) (gl 2 rfl) b2, (gl 3 rfl), F3.kp, b3⟩
    same := ⟨_, _, ok_same (fun_of F4) tN, (gl 4 rfl), F4.kp, b4⟩
    len_ := ⟨_, _, ok_len (fun_of F6) GD (gl 2 rfl) F2.kp b2 GLw (gl 5 rfl) F5.kp b5, (gl 6 rfl), F6.kp, b6⟩
    init := ⟨_, _, GI, He.mkr_ok (d.fact 12 rfl), b12, kI⟩
    weights := ⟨_, _, ok_weights (fun_of F13) tM GC2 (gl 9 rfl) F9.kp b9, (He.meth_ok (d.fact 13 rfl)), b13⟩
    sums := ⟨_, _, ok_sums (fun_of F14) tM GC2 (gl 9 rfl) F9.kp b9, (He.meth_ok (d.fact 14 rfl)), b14⟩
    void := ⟨_, _, ok_void (fun_of F15) tM tC (fr 32 rfl) GRt (gl 8 rfl) F8.kp b8, (He.meth_ok (d.fact 15 rfl)), b15⟩
    eq := ⟨_, ⟨VG.FnOk.toR (ok_eqM (fun_of F16) tM tI (fr 26 rfl) (gl 18 rfl)) b16, (He.meth_ok (d.fact 16 rfl)).at_, (He.meth_ok (d.fact 16 rfl)).fn⟩, neB_ok m1⟩
    repr := ⟨_, VG.FnOk.toR (ok_reprM (fun_of F17) tM (ok_lenOf (fun_of F11) tC (fr 23 rfl)) (gl 11 rfl) F11.kp b11) b17, (He.meth_ok (d.fact 17 rfl)).at_, (He.meth_ok (d.fact 17 rfl)).fn⟩
    cls := tM
    ins := tI
    nf := m4
    nfc := m5
    mean := (gl 18 rfl)
    list := (fr 24 rfl)
    len := (fr 23 rfl)
    str := (fr 31 rfl)
    tup := (fr 29 rfl)
    rep := (fr 25 rfl)
    rng := (fr 28 rfl) }
end Lw

set_option maxRecDepth 100000
set_option maxHeartbeats 0
open PySem PySem.W PySem.Calls PyProof.Rows
theorem PySem.Challenge.cw_missingmiles_k47_means_told_holds : PySem.Challenge.rw_missingmiles_k47_means_told.Holds := by
  w_on; o_law
  refine HandSHeadRun.head_imp (r := OpenLaw.row PySem.Challenge.rw_missingmiles_k47_means_told) (q := view (OpenLaw.row PySem.Challenge.rw_missingmiles_k47_means_told).prog [0, 18]) (H := Lw.hk) (ob := Lw.ob) (M := 2000) (loose := Lw.loose)
    (d := HandSHeadRun.topDef (OpenLaw.row PySem.Challenge.rw_missingmiles_k47_means_told).prog 18) (kwd := []) Lw.ob_eq Lw.run
    (by kernel_rfl) (by kernel_rfl) (by kernel_rfl) (by rfl) (by first | assumption | decide +kernel) (by decide +kernel) ⟨rfl, rfl, rfl, rfl, rfl, by decide +kernel⟩ ?hw ?hc
  case hw => w_witness2
  case hc =>
    refine VG.walkGE (l := PySem.Challenge.rw_missingmiles_k47_means_told) (n := 63) (k := 7) (x := "_law_script") (CX := fun _ => L2.CX0) rfl (by decide) (by kernel_rfl) ⟨rfl, by decide, by decide⟩ ?F (fun _ _ _ _ _ z => z)
    intro w mg fa h Y G hmg0
    obtain ⟨K, KX, c⟩ := Y
    have e : (HandSHeadRun.topDef (OpenLaw.row PySem.Challenge.rw_missingmiles_k47_means_told).prog 18).name = ("law" : PySem.Str) := by kernel_rfl
    rw [e] at hmg0
    exact ⟨K, KX, Lw.facts KX G hmg0 c⟩

