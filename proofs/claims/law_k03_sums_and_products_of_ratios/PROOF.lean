import PyProof.Rows.All
import Wide.All
import OpenK.AllK
import Wide.FinOn
import PyProof.ReprBulk
import HandS.Base
import HandS.Call
import HandS.List
import HandS.Ends
import HandS.Words
import HandS.Lambda
import HandS.EndBits
import HandS.EndTab
import HandS.Defaults
import HandS.Deep
import HandS.TupAny
import HandS.Exc
import HandS.ExcInit
import HandS.WordsExc
import HandS.TryOnly
import KE.KExcSuper
import KE.KExcMake
import HandS.ClsMeth
import KE.KTypeName
import KE.KTryMore
import HandS.HotCalls
import HandS.ExcField
import HandS.ForMost
import HandS.Walk
import HandS.IsInst
import HandS.HeadHook4
import HandS.Star
import HandS.Wide
import HandS.Codes
import HandS.StrMore
import PySem.Challenge.RW_missingmiles_k03_sums_and_products_of_ra
import HandS.Gcd
import HandS.Style
import HandS.Head0
import HandS.Head1
import HandS.Head2
import HandS.Head3
set_option Elab.async false
set_option maxRecDepth 100000
/-! Data that is small enough to be shown; calls made where no repr is under way; the law's end for such calls. -/
namespace VG
open PySem PySem.Spec PyProof.Rows L2

/-! ### small data -/
mutual
def sm : PyData → Bool
  | .none => true
  | .bool _ => true
  | .int i => decide (i.natAbs < 10 ^ 90)
  | .str x => PyData.strOk x
  | .list xs => smAll xs
  | .tuple xs => smAll xs
  | .dict _ => false
def smAll : List PyData → Bool
  | [] => true
  | x :: xs => sm x && smAll xs
end
theorem pow90 : (10 : Nat) ^ 90 < 2 ^ 1900 := by decide +kernel
theorem log_of {n : Nat} (h : n < 10 ^ 90) : n.log2 < 1920 := by
  by_cases z : n = 0
  · subst z
    decide
  · have q : n.log2 < 1900 := (Nat.log2_lt z).mpr (Nat.lt_trans h pow90)
    exact Nat.lt_of_lt_of_le q (by decide)
theorem signs_small {x : Str} (h : PyData.strOk x = true) : ∀ c ∈ x.cps.toList, c < 16 ^ 8 := fun c hc => by
  have q := Array.all_eq_true_iff_forall_mem.mp h c (Array.mem_toList_iff.mp hc)
  have q2 : c < 1114112 := of_decide_eq_true q
  exact Nat.lt_trans q2 (by decide)
theorem int_len {i : Int} (h : i.natAbs < 10 ^ 90) : (PyData.int i).shown.length ≤ 100 := by
  rw [PyData.shown_int, _root_.PySem.ofString_length]
  exact Nat.le_trans (int_text_length_le10 (k := 90) (by decide) h) (by decide)
mutual
theorem sm_all : ∀ d : PyData, sm d = true → (d.showable = true ∧ d.hasDict = false) ∧ d.leavesShort 100 = true ∧ d.canLay0 = true
  | .none, _ => ⟨⟨rfl, rfl⟩, rfl, rfl⟩
  | .bool _, _ => ⟨⟨rfl, rfl⟩, rfl, rfl⟩
  | .int i, h => by
    have q : i.natAbs < 10 ^ 90 := of_decide_eq_true (by simpa only [sm] using h)
    exact ⟨⟨by simp only [PyData.showable]; exact decide_eq_true (log_of q), by simp only [PyData.hasDict]⟩, by simp only [PyData.leavesShort]; exact decide_eq_true (int_len q), by simp only [PyData.canLay0]⟩
  | .str x, h => by
    have q : PyData.strOk x = true := by simpa only [sm] using h
    refine ⟨⟨by simp only [PyData.showable], by simp only [PyData.hasDict]⟩, ?_, by simp only [PyData.canLay0]; exact q⟩
    simp only [PyData.leavesShort]
    exact List.all_eq_true.mpr fun c hc => decide_eq_true (signs_small q c hc)
  | .list xs, h => by
    obtain ⟨⟨a, b⟩, c, e⟩ := sm_alls xs (by simpa only [sm] using h)
    exact ⟨⟨by simp only [PyData.showable]; exact a, by simp only [PyData.hasDict]; exact b⟩, by simp only [PyData.leavesShort]; exact c, by simp only [PyData.canLay0]; exact e⟩
  | .tuple xs, h => by
    obtain ⟨⟨a, b⟩, c, e⟩ := sm_alls xs (by simpa only [sm] using h)
    exact ⟨⟨by simp only [PyData.showable]; exact a, by simp only [PyData.hasDict]; exact b⟩, by simp only [PyData.leavesShort]; exact c, by simp only [PyData.canLay0]; exact e⟩
  | .dict _, h => by simp [sm] at h
theorem sm_alls : ∀ xs : List PyData, smAll xs = true → (PyData.showableAll xs = true ∧ PyData.hasDictAll xs = false) ∧ PyData.leavesShortAll 100 xs = true ∧ PyData.canLayAll0 xs = true
  | [], _ => ⟨⟨rfl, rfl⟩, rfl, rfl⟩
  | x :: xs, h => by
    have h' : sm x = true ∧ smAll xs = true := by simpa only [smAll, Bool.and_eq_true] using h
    obtain ⟨⟨a, b⟩, c, e⟩ := sm_all x h'.1
    obtain ⟨⟨a', b'⟩, c', e'⟩ := sm_alls xs h'.2
    simp only [PyData.showableAll, PyData.hasDictAll, PyData.leavesShortAll, PyData.canLayAll0, a, b, c, e, a', b', c', e', Bool.and_self, Bool.or_self, and_self]
end
/-- d may be shown, and compared: its leaves are small, it is neither deep nor long -/
structure Sm (d : PyData) : Prop where
  sm : sm d = true
  dp : d.depth ≤ 40
  bk : d.bulk ≤ 100000
theorem Sm.fits {d : PyData} (h : Sm d) : d.shown.length ≤ sizeLine := by
  have q := PyData.shown_le_bulk 100 (by decide) d (sm_all d h.sm).2.1
  have b := h.bk
  have e : (100 + 2) * d.bulk ≤ 102 * 100000 := Nat.mul_le_mul (by decide) b
  rw [sizeLine_eq]
  omega
theorem Sm.shaped {d : PyData} (h : Sm d) : SeqAt.shaped d = true := by
  have e := (sm_all d h.sm).2.2
  have f : d.depth ≤ 64 := Nat.le_trans h.dp (by decide)
  show (d.canLay0 && decide (d.depth ≤ 64)) = true
  rw [e, decide_eq_true f]
  rfl

/-! ### repr of data, where no repr is under way -/
def rRepr (K : PySem.W.Frag) : List V → Hp → VK → Prop := fun xs H Q => ∃ x d, xs = [x] ∧ Dp K H x d ∧ Sm d ∧ Q (.str d.shown) H
section
variable {X : Cx}
theorem call_repr (hG : X.A.guards = some []) (hu : X.A.units + 64 < cLine) : CallR X (.builtin "repr") (rRepr X.K) := by
  intro pins s σ H xs us Q I r h
  obtain ⟨x, d, rfl, hd, hS, q⟩ := h
  obtain ⟨u, rfl, r1⟩ := vals1 r
  have fit := hS.fits
  obtain ⟨⟨hs, hn⟩, _, _⟩ := sm_all d hS.sm
  obtain ⟨as, rd⟩ := Dp.reads I d x u hd r1
  cases hd with
  | non =>
    cases r1
    refine PySem.P.repr_of_none ⟨.str _, H, I.tok _, ⟨_, rfl⟩, ?_⟩
    rw [PyData.shown_none] at q
    exact q
  | bl b =>
    cases r1
    refine PySem.P.repr_of_bool ⟨.str _, H, I.tok _, ⟨_, rfl⟩, ?_⟩
    rw [PyData.shown_bool] at q
    cases b <;> exact q
  | int i =>
    obtain ⟨t, rfl⟩ := r1
    have z : i.natAbs < 10 ^ 90 := of_decide_eq_true (by simpa only [VG.sm] using hS.sm)
    exact PySem.P.repr_of_int (log_of z) ⟨.str _, H, I.tok _, ⟨_, rfl⟩, by rw [PyData.shown_int] at q; exact q⟩
  | str y =>
    obtain ⟨t, rfl⟩ := r1
    rw [PyData.shown_str] at q fit
    exact PySem.P.repr_of_str ⟨.str _, H, I.tok _, ⟨_, rfl⟩, q⟩ fit
  | lst hl ha =>
    cases r1
    exact repr_of_reads' rd hs (PyData.noDict_hsm hn) hG (by have := hS.dp; omega) (fun _ _ e => e) (fun h' u tk hk => ⟨.str _, H, I.kept hk, ⟨_, rfl⟩, q⟩) fit
  | tup hl ha =>
    cases r1
    exact repr_of_reads' rd hs (PyData.noDict_hsm hn) hG (by have := hS.dp; omega) (fun _ _ e => e) (fun h' u tk hk => ⟨.str _, H, I.kept hk, ⟨_, rfl⟩, q⟩) fit
end

/-! ### defs that are called where no repr is under way -/
structure FnG (P : Program) (w : World) (K : PySem.W.Frag) (mg : Str → Option Value) (base : Heap) (CX : CXT) (k : Nat) (f : Addr) (fd : FuncData) (ps : List Str) (sp : Sp) : Prop where
  many : ∀ vs H Q E, sp vs H Q E → vs.length = ps.length
  runs : ∀ (A : Around) (outer : List Env) (s : Shared) (H : Hp) (args : Args) (us : List Value) (vs : List V) (Q : VK) (E : XK), A.guards = some [] → Room k A → Env0 P w K mg base A outer s H →
    BindsTo s fd args (ps.zip us) → Vals vs us → sp vs H Q E → codeAny (model P w) A (.call (.ref f) args) (CR CX outer P w H s Q E) s
section
variable {P : Program} {w : World} {K : PySem.W.Frag} {mg : Str → Option Value} {base : Heap}
theorem okG {x qual : Str} {st : Stmt} {f : Addr} {fd : FuncData} {N ps : List Str} {k : Nat} {sp : Sp} (F : Fun K x qual st f fd) (S : FnScope N ps (defScope st)) (many : ∀ vs H Q E, sp vs H Q E → vs.length = ps.length)
    (body : ∀ (cdv : Value) (A : Around) (outer : List Env) (s : Shared) (H : Hp) (vs : List V) (Q : VK) (E : XK), A.guards = some [] → Room k (A.deeper (envOfC qual (defScope st) s.heap.objs.size f cdv)) → sp vs H Q E →
      ∃ t, PSs (cxOf CX0 P w K mg base N qual (defScope st) f cdv A outer s H E).nox (defBody st) t ∧
        t { nx := fun _ H' => Q .non H', rt := Q } (L2.start N vs) H) : FnG P w K mg base CX0 (k + 1) f fd ps sp := by
  obtain ⟨oc, od, kV, doc, pm, an, cdv, ct, osl, rfl, lk, hcd⟩ := F.ex
  refine ⟨many, fun A outer s H args us vs Q E hG hr e0 hb r q => ?_⟩
  refine LamX.run_ofS lk hcd S hr e0 hb r (many _ _ _ _ q) fun hr' => ?_
  obtain ⟨t, h1, h2⟩ := body cdv A outer s H vs Q E hG hr' q
  exact ⟨t, h1.nox, h2⟩
end
section
variable {X : Cx} {CX : CXT} {k : Nat} {f : Addr} {fd : FuncData} {ps : List Str} {sp : Sp} {dvs : List V} {ds : List Value} {E : XK} {x : Str} {p pos : Pos} {e : Expr} {es : List Expr} {t : TA}
theorem pe_callG (F : FnG X.prog X.w X.K X.mg X.base CX k f fd ps sp) (hG : X.A.guards = some []) (hr : Room k X.A) (hg : Gl X x) (hm : X.mg x = some (.ref f)) (hk : PySem.W.keepIn X.K (.ref f) = true) (hb : Binds X.K fd ps ds) (hd : Vals dvs ds)
    (hx : Passes CX X E) (ha : PA X (e :: es) t) (n1 : (x == ("__debug__" : Str)) = false := by decide) (n2 : starEach (e :: es) X.env = (false, eval e X.env) :: starEach es X.env := by rfl)
    (n3 : (backTo pos (starEach es X.env)).any (·.1) = false := by rfl) : PE X (.Call (.Name x p) (e :: es) [] pos) (tCall sp dvs E t) := by
  refine ⟨fun pins s σ H Q I q0 => wpAny_Call_Name_kw (ld_glob I hg hm (PySem.W.callWith_K (h₀ := X.base) I.ok.mod.kin hk (thn (ha.run pos pins s σ H _ I q0) fun us s1 ⟨vs, H1, I1, r, q⟩ => ⟨I1.kIn, ?_⟩) n2 n3) n1)⟩
  have r2 : Vals (vs ++ dvs) (us ++ ds) := r.append hd
  have l2 : (us ++ ds).length = ps.length := r2.length.symm.trans (F.many _ _ _ _ q)
  refine wpAny_call (codeAny_mono (F.runs X.A X.stack s1 H1 ⟨us, []⟩ (us ++ ds) (vs ++ dvs) Q E hG hr I1.env0 (hb s1 us I1.kIn l2) r2 q) fun res s' z => ?_)
  match res, z with
  | .error err, z => exact hx pins σ H1 s1 err s' I1 z
  | .ok (.ret u), z => exact I1.after z
  | .ok .next, z => exact z.elim
  | .ok .brk, z => exact z.elim
  | .ok .cont, z => exact z.elim
end
end VG

set_option maxRecDepth 100000
/-! The law's end where the law's promise asks that no repr is under way. -/
namespace VG
open PySem PySem.Spec PyProof.Rows L2 LamX

def tabObj : Obj := { cls := .none, data := .fields #[] }
def scriptObj (vs : List Value) : Obj := { cls := .type "list", data := .seq vs.toArray }
/-- what is tracked where the law is called: the tables, and the script where sc says so -/
def laidAt (cs : List (Addr × Addr)) (a : Addr) (vs : List Value) (ns : List Int) (sc : Bool) : Hp := fun b =>
  if b ∈ cs.map (·.2) then some (.tbl #[]) else if sc = true ∧ b = a then some (.frz (scriptObj vs) (.lst (ns.map V.int))) else none
theorem laid_tab {cs : List (Addr × Addr)} {a : Addr} {vs : List Value} {ns : List Int} {sc : Bool} {b : Addr} (h : b ∈ cs.map (·.2)) : laidAt cs a vs ns sc b = some (.tbl #[]) := if_pos h
theorem laid_script {cs : List (Addr × Addr)} {a : Addr} {vs : List Value} {ns : List Int} (h : a ∉ cs.map (·.2)) : laidAt cs a vs ns true a = some (.frz (scriptObj vs) (.lst (ns.map V.int))) := by
  unfold laidAt
  rw [if_neg h, if_pos ⟨rfl, rfl⟩]
theorem laid_cases {cs : List (Addr × Addr)} {a : Addr} {vs : List Value} {ns : List Int} {sc : Bool} {b : Addr} {u : HO} (h : laidAt cs a vs ns sc b = some u) :
    (b ∈ cs.map (·.2) ∧ u = .tbl #[]) ∨ (sc = true ∧ b = a ∧ u = .frz (scriptObj vs) (.lst (ns.map V.int))) := by
  unfold laidAt at h
  by_cases h1 : b ∈ cs.map (·.2)
  · rw [if_pos h1] at h
    exact .inl ⟨h1, (Option.some.inj h).symm⟩
  · rw [if_neg h1] at h
    by_cases h2 : sc = true ∧ b = a
    · rw [if_pos h2] at h
      exact .inr ⟨h2.1, h2.2, (Option.some.inj h).symm⟩
    · rw [if_neg h2] at h
      cases h

theorem law_runG {P : Program} {w : World} {K : PySem.W.Frag} {mg mb : Str → Option Value} {CX : CXT} {k : Nat} {fa a : Addr} {cs : List (Addr × Addr)} {fd : FuncData} {x : Str} {sp : Sp} {s₁ : Shared} {vs : List Value} {ns : List Int}
    (KX : K.In s₁.heap) (hns : s₁.heap.Ns mainGlobals mg) (hb : s₁.heap.Ns builtinsNs mb) (hbb : ∀ x : Str, x ≠ "__name__" → mb x = bootBuiltins x) (hlim : s₁.heap.NoLimit)
    (hgen : s₁.gens = #[]) (hT : ∀ p ∈ cs, s₁.heap.get? p.2 = some tabObj) (nT : ∀ p ∈ cs, K.lookup p.2 = none) (C : ∀ p ∈ cs, PySem.W.CodeHd s₁.heap p.1 p.2)
    (hbm : ∃ (bm : Addr) (ob : Obj), mg "__builtins__" = some (.ref bm) ∧ bm ≠ builtinsNs ∧
      s₁.heap.get? bm = some ob ∧ ob.cls = .type "module" ∧ ob.dict = some builtinsNs ∧ ob.data = .plain)
    (ha : s₁.heap.get? a = some (scriptObj vs)) (hi : IntsAre vs ns) (hl : ns.length ≤ sizeLine) (hr : Room k callerA)
    (F : ∀ base : Heap, K.In base → base.Ns mainGlobals mg → (∀ p ∈ cs, TabB base mg p.1 p.2) → FnG P w K mg base CX k fa fd [x] sp)
    (bind1 : ∀ (s : Shared) (u : Value), BindsTo s fd ⟨[u], []⟩ [(x, u)])
    (kept : ∀ H : Hp, (∀ p ∈ cs, H p.2 = some (.tbl #[])) → SqL K H a (ns.map V.int) → sp [.ref a] H (fun v _ => v = .bl true) fun _ _ _ => False)
    (noX : ∀ H e s', CX [] H s₁ (fun _ _ _ => False) e s' → False) :
    codeAny (model P w) callerA (.call (.ref fa) ⟨[.ref a], []⟩)
      (fun r s' => r = .ok (.ret (.bool true)) ∧ OldK s₁.heap s'.heap ∧ s'.os = s₁.os ∧ AllBare s'.gens) s₁ := by
  have rv : Vals (ns.map V.int) vs := vals_ints hi
  have tabOf : ∀ b, b ∈ cs.map (·.2) → ∃ p ∈ cs, p.2 = b := fun b z => List.mem_map.mp z
  have inTab : ∀ p ∈ cs, p.2 ∈ cs.map (·.2) := fun p hp => List.mem_map.mpr ⟨p, hp, rfl⟩
  have atTab : ∀ b, b ∈ cs.map (·.2) → s₁.heap.get? b = some tabObj := fun b z => by
    obtain ⟨p, hp, rfl⟩ := tabOf b z
    exact hT p hp
  have aNo : a ∉ cs.map (·.2) := fun z => by
    have q := ha.symm.trans (atTab a z)
    have q2 : Data.seq vs.toArray _ = Data.fields #[] := congrArg Obj.data (Option.some.inj q)
    cases q2
  -- sc: is the script tracked (else it is one of the module's own objects)
  obtain ⟨sc, hsc, hseq⟩ : ∃ sc : Bool, (sc = true → K.lookup a = none) ∧ SqL K (laidAt cs a vs ns sc) a (ns.map V.int) := by
    cases hk : K.lookup a with
    | none => exact ⟨true, fun _ => rfl, .inl (.inr ⟨_, laid_script aNo⟩)⟩
    | some o =>
      have q := ha.symm.trans (KX a o hk)
      cases q
      refine ⟨false, fun z => (nomatch z), .inr ⟨_, vs.toArray, _, hk, rfl, rfl, rfl, ?_, by simpa using rv⟩⟩
      rw [List.size_toArray]
      exact hi.length ▸ hl
  generalize hH : laidAt cs a vs ns sc = H at hseq
  have tabH : ∀ p ∈ cs, H p.2 = some (.tbl #[]) := fun p hp => by
    rw [← hH]
    exact laid_tab (inTab p hp)
  have casesH : ∀ {b u}, H b = some u → (b ∈ cs.map (·.2) ∧ u = .tbl #[]) ∨ (sc = true ∧ b = a ∧ u = .frz (scriptObj vs) (.lst (ns.map V.int))) := fun {b u} q => by
    rw [← hH] at q
    exact laid_cases q
  have hok : HOk P w H s₁.heap := fun b u q => by
    rcases casesH q with ⟨z, rfl⟩ | ⟨_, rfl, rfl⟩
    · exact atTab b z
    · exact ⟨ha, by rw [List.length_map]; exact hl, vs, _, rv, ha⟩
  -- an object of another data is not tracked
  have other : ∀ {b : Addr} {o : Obj}, s₁.heap.get? b = some o → o.data ≠ tabObj.data → o.data ≠ (scriptObj vs).data → H b = none := fun {b o} e n1 n2 => by
    cases q : H b with
    | none => rfl
    | some u =>
      rcases casesH q with ⟨z, _⟩ | ⟨_, z, _⟩
      · exact (n1 (congrArg Obj.data (Option.some.inj (e.symm.trans (atTab b z))))).elim
      · exact (n2 (congrArg Obj.data (Option.some.inj (e.symm.trans (z ▸ ha))))).elim
  have keeps : ∀ {b : Addr} {o : Obj}, s₁.heap.get? b = some o → o.data ≠ tabObj.data → o.data ≠ (scriptObj vs).data → (hidT s₁.heap H).get? b = some o := fun e n1 n2 => hidT_get e (other e n1 n2)
  have nsK : ∀ {b : Addr} {m : Str → Option Value}, s₁.heap.Ns b m → (hidT s₁.heap H).Ns b m := fun ⟨o, es, ep, e, d, r⟩ =>
    ⟨o, es, ep, keeps e (fun z => by rw [d] at z; cases z) (fun z => by rw [d] at z; cases z), d, r⟩
  have hKb : K.In (hidT s₁.heap H) := fun b o e => hidT_get (KX b o e) (by
    cases q : H b with
    | none => rfl
    | some u =>
      rcases casesH q with ⟨z, _⟩ | ⟨z1, z, _⟩
      · obtain ⟨p, hp, rfl⟩ := tabOf b z
        rw [nT p hp] at e
        cases e
      · rw [z, hsc z1] at e
        cases e)
  have hM : L2.Mod K mg (hidT s₁.heap H) := ⟨hKb, nsK hns, ⟨mb, nsK hb, hbb⟩, let ⟨mc, h1, h2⟩ := hlim; ⟨mc, nsK h1, h2⟩⟩
  have TB : ∀ p ∈ cs, TabB (hidT s₁.heap H) mg p.1 p.2 := fun p hp => by
    refine ⟨?_, ?_, fun z => ?_⟩
    · obtain ⟨o, us, file, tf, flags, tg, inF, text, tt, e1, r1, r2, r3, r4, r5, r6, r7, r8, hne⟩ := C p hp
      refine ⟨o, us, file, tf, flags, tg, inF, text, tt, keeps e1 (fun z => ?_) (fun z => ?_), r1, r2, r3, r4, r5, r6, r7, r8, hne⟩
      · have z2 := r2.symm.trans z
        cases z2
        simp at r3
      · have z2 := r2.symm.trans z
        cases z2
    · obtain ⟨bm, ob, b1, b2, b3, b4, b5, b6⟩ := hbm
      refine ⟨bm, ob, b1, b2, fun q => ?_, fun q => ?_, keeps b3 (fun z => ?_) (fun z => ?_), b4, b5, b6⟩
      · obtain ⟨o, es, ep, e, hd, _⟩ := hns
        have z := Option.some.inj ((q ▸ b3).symm.trans e)
        rw [← z, b6] at hd
        cases hd
      · have z := Option.some.inj ((q ▸ b3).symm.trans (hT p hp))
        rw [z] at b6
        cases b6
      · have z2 := b6.symm.trans z
        cases z2
      · have z2 := b6.symm.trans z
        cases z2
    · obtain ⟨o, es, ep, e, hd, _⟩ := hns
      have z2 := Option.some.inj ((z ▸ e).symm.trans (hT p hp))
      rw [z2] at hd
      cases hd
  have e0 : Env0 P w K mg (hidT s₁.heap H) callerA [] s₁ H :=
    ⟨rfl, hM, fun b o e => of_hidT e, Nat.le_of_eq (hidT_size _ _), trivial, fun b z => absurd (show b ∈ ([] : List Addr) from z) (by simp), hok, .of_eq hgen⟩
  refine codeAny_mono ((F _ hKb (nsK hns) TB).runs callerA [] s₁ H ⟨[.ref a], []⟩ [.ref a] [.ref a] _ _ rfl hr e0 (bind1 s₁ (.ref a)) (.cons rfl .nil) (kept H tabH hseq)) fun r s' z => ?_
  match r, z with
  | .error e, z => exact (noX H e s' z).elim
  | .ok .next, z => exact z.elim
  | .ok .brk, z => exact z.elim
  | .ok .cont, z => exact z.elim
  | .ok (.ret u), z =>
    obtain ⟨v, H', os, bare, un, hok', r', q⟩ := z
    have q1 : v = .bl true := q
    subst q1
    obtain rfl : u = Value.bool true := r'
    -- all but the tables is as it was
    have old : ∀ b o, b ∉ cs.map (·.2) → s₁.heap.get? b = some o → s'.heap.get? b = some o := fun b o nb e => by
      cases q : H b with
      | none => exact un.keep b o e q (fun z => absurd (show b ∈ ([] : List Addr) from z) (by simp)) (by simp)
      | some u =>
        rcases casesH q with ⟨z, _⟩ | ⟨_, rfl, rfl⟩
        · exact absurd z nb
        · obtain ⟨e2, _⟩ := hok' b _ (un.frzs b _ _ q)
          rw [ha] at e
          rw [← e]
          exact e2
    have grew : ∀ p ∈ cs, ∃ more : Array Value, s'.heap.get? p.2 = some { cls := .none, data := .fields more } := fun p hp => by
      obtain ⟨more, z⟩ := un.tbls p.2 #[] (tabH p hp)
      exact ⟨_, hok' p.2 _ z⟩
    refine ⟨rfl, ⟨fun b o e => ?_, fun b o e => ?_⟩, os, bare⟩
    · by_cases z : b ∈ cs.map (·.2)
      · obtain ⟨p, hp, rfl⟩ := tabOf b z
        obtain ⟨more, hm⟩ := grew p hp
        have e2 := Option.some.inj (e.symm.trans (hT p hp))
        rw [e2]
        exact .inr (.inl ⟨((C p hp).tab (hT p hp)).isCodeTable, rfl, #[], more, rfl, by rw [Array.empty_append]; exact hm⟩)
      · exact .inl (old b o z e)
    · by_cases z : b ∈ cs.map (·.2)
      · obtain ⟨p, hp, rfl⟩ := tabOf b z
        obtain ⟨more, hm⟩ := grew p hp
        exact ⟨_, hm⟩
      · exact ⟨o, old b o z e⟩

/-- what is known of the law's promise at the head's heap h -/
def LawG (l : PySem.W.OpenLaw) (w : World) (K : PySem.W.Frag) (CX : CXT) (k n : Nat) (x : Str) (mg : Str → Option Value) (fa : Addr) (h : Heap) : Prop :=
  ∃ (fd : FuncData) (cs : List (Addr × Addr)) (sp : Sp), (∀ p ∈ cs, h.get? p.2 = some tabObj) ∧ (∀ p ∈ cs, K.lookup p.2 = none) ∧ (∀ p ∈ cs, PySem.W.CodeHd h p.1 p.2) ∧
    (∀ (s : Shared) (u : Value), BindsTo s fd ⟨[u], []⟩ [(x, u)]) ∧
    (∀ (H : Hp) (a : Addr) (ns : List Int), ns.length ≤ n → (∀ z ∈ ns, Builtin.Int.intBits z ≤ 1048576) → (∀ p ∈ cs, H p.2 = some (.tbl #[])) → SqL K H a (ns.map V.int) →
      sp [.ref a] H (fun v _ => v = .bl true) fun _ _ _ => False) ∧
    ∀ base : Heap, K.In base → base.Ns mainGlobals mg → (∀ p ∈ cs, TabB base mg p.1 p.2) → FnG l.prog w K mg base CX k fa fd [x] sp
theorem walkG {l : PySem.W.OpenLaw} {n k : Nat} {q : Program} {loose : List Str} {XP : (Str → Option Value) → Heap → Prop} {YP : World → Heap → Prop} {d : DefRec} {K : Params → PySem.W.Frag} {CX : World → CXT} {x : Str}
    (hn : l.most = some n) (hn2 : n ≤ sizeLine) (hdf : d.params.defaults = []) (hr : Room k callerA)
    (hY : ∀ (w : World) (h : Heap), YP w h → (K w.params).In h)
    (F : ∀ (w : World) (mg : Str → Option Value) (fa : Addr) (h : Heap), YP w h → (K w.params).In h → h.Ns mainGlobals mg → mg d.name = some (.ref fa) →
      LawG l w (K w.params) (CX w) k n x mg fa h)
    (noX : ∀ (w : World) (H : Hp) (s : Shared) (e : Value) (s' : Shared), CX w [] H s (fun _ _ _ => False) e s' → False) :
    PySem.W.WalkO q loose XP YP l.row.toRowW d [] (fun f vs => PySem.call f vs) :=
  Att.attach_callB hn hdf fun w s₀ s₁ mg mb fa o pm cd doc a vs ns G Y ho hd hcd hmg hobj hints hlen hbits hg => by
    obtain ⟨fd, cs, sp, hT, nT, C, hb, hsp, hF⟩ := F w mg fa _ Y (hY w _ Y) G.T.g hmg
    exact law_runG (hY w _ Y) G.T.g G.T.b G.T.builtins G.T.nolimit hg hT nT C G.T.bmain hobj hints (Nat.le_trans hlen hn2) hr hF hb (fun H hH hS => hsp H a ns hlen hbits hH hS) fun H e s' => noX w H s₁ e s'
theorem walkGE {l : PySem.W.OpenLaw} {n k : Nat} {q : Program} {loose : List Str} {XP : (Str → Option Value) → Heap → Prop} {YP : World → Heap → Prop} {d : DefRec} {CX : World → CXT} {x : Str}
    (hn : l.most = some n) (hn2 : n ≤ sizeLine) (hdf : d.params.defaults = []) (hr : Room k callerA)
    (F : ∀ (w : World) (mg : Str → Option Value) (fa : Addr) (h : Heap), YP w h → h.Ns mainGlobals mg → mg d.name = some (.ref fa) →
      ∃ K : PySem.W.Frag, K.In h ∧ LawG l w K (CX w) k n x mg fa h)
    (noX : ∀ (w : World) (H : Hp) (s : Shared) (e : Value) (s' : Shared), CX w [] H s (fun _ _ _ => False) e s' → False) :
    PySem.W.WalkO q loose XP YP l.row.toRowW d [] (fun f vs => PySem.call f vs) :=
  Att.attach_callB hn hdf fun w s₀ s₁ mg mb fa o pm cd doc a vs ns G Y ho hd hcd hmg hobj hints hlen hbits hg => by
    obtain ⟨K, KX, fd, cs, sp, hT, nT, C, hb, hsp, hF⟩ := F w mg fa _ Y G.T.g hmg
    exact law_runG KX G.T.g G.T.b G.T.builtins G.T.nolimit hg hT nT C G.T.bmain hobj hints (Nat.le_trans hlen hn2) hr hF hb (fun H hH hS => hsp H a ns hlen hbits hH hS) fun H e s' => noX w H s₁ e s'
end VG

set_option maxRecDepth 100000
/-! Calls by keywords alone; x in a tuple of data; data in a heap that has grown. -/
namespace VG
open PySem PySem.Spec PyProof.Rows L2
section
variable {X : Cx} {CX : CXT} {k : Nat} {f : Addr} {fd : FuncData} {ps ks : List Str} {sp : Sp} {E : XK} {x : Str} {p pos : Pos} {kws : List Keyword} {tk : TA} {g : List Value → List Value → List Value} {gV : List V → List V → List V}
/-- f(k = v, ..) -/
theorem pe_callN0 (F : FnOk X.prog X.w X.K X.mg X.base CX k f fd ps sp) (hr : Room k X.A) (hg : Gl X x) (hm : X.mg x = some (.ref f)) (hk : PySem.W.keepIn X.K (.ref f) = true) (hb : KBn X.K fd ps 0 ks g gV)
    (hx : Passes CX X E) (hkw : PK X kws tk) (n1 : (backToKw pos (keywordEach kws X.env)).all (·.1.isSome) = true := by rfl) (n2 : (backToKw pos (keywordEach kws X.env)).filterMap (·.1) = ks := by rfl)
    (n3 : (x == ("__debug__" : Str)) = false := by decide) (n4 : ((backTo pos (starEach [] X.env)).any (·.1) || (backToKw pos (keywordEach kws X.env)).any (·.1.isNone)) = false := by rfl) :
    PE X (.Call (.Name x p) [] kws pos) (tCallN 0 ks.length sp gV E tNil tk) :=
  ⟨fun pins s σ H Q I h => wpAny_Call_Name_kw (ld_glob I hg hm (PySem.W.callWith_KW0 (h₀ := X.base) I.ok.mod.kin hk n1 (thn (hkw.run pos pins s σ H _ I h) fun ws s2 ⟨zs, H2, I2, rz, l1, l2, q2⟩ =>
    ⟨I2.kIn, by rw [n2]; exact run_fnN (us := []) (vs := []) F hr hb hx I2 .nil rz l1 l2 q2⟩) n4) n3)⟩
end
/-! ### how keywords bind -/
section
variable {K : PySem.W.Frag} {x qual : Str} {params : Arguments} {body : List Stmt} {scope : Scope} {dvs : List V} {kws : List (Str × V)} {f : Addr} {fd : FuncData} {ps : List Str}
/-- some defaults, no keyword-only ones -/
theorem kbindsD (F : FunD K x qual params body scope dvs kws f fd) (n : Nat) (ks : List Str) (g : {α : Type} → List α → List α → List α → List α) (hd : dvs ≠ [])
    (hrel : ∀ {vs ds zs : List V} {us its ws : List Value}, Vals vs us → Vals ds its → Vals zs ws → Vals (g vs ds zs) (g us its ws))
    (h : ∀ (T : Addr) (kV doc pm : Value) (an : Option Addr) (cdv ct : Value) (us its ws : List Value), us.length = n → its.length = dvs.length → ws.length = ks.length →
      ∃ k, bindArgs (PySem.W.fnOf x qual params body scope (.ref T) kV doc pm an cdv ct) ⟨us, ks.zip ws⟩ = seqItems? (.ref T) >>= k ∧ k (some its.toArray) = pure (ps.zip (g us its ws))) :
    ∃ its : List Value, KBn K fd ps n ks (fun us ws => g us its ws) (fun vs zs => g vs dvs zs) := by
  obtain ⟨oc, od, dV, kV, doc, pm, an, cdv, ct, osl, rfl, lk, hcd, hD, hK⟩ := F.ex
  rcases hD with ⟨e, _⟩ | ⟨_, T, o, its, m, rfl, lT, oT, rT⟩
  · exact absurd e hd
  · refine ⟨its, fun s us ws X l1 l2 => BindsTo.of_looks fun M => ?_, fun r1 r2 => hrel r1 rT r2⟩
    obtain ⟨k, e1, e2⟩ := h T kV doc pm an cdv ct us its ws l1 rT.length.symm l2
    rw [e1]
    exact looks_items X lT oT (.of_pure e2)
/-- no defaults at all -/
theorem kbindsN (F : FunD K x qual params body scope [] kws f fd) (n : Nat) (ks : List Str) (g : {α : Type} → List α → List α → List α)
    (hrel : ∀ {vs zs : List V} {us ws : List Value}, Vals vs us → Vals zs ws → Vals (g vs zs) (g us ws))
    (h : ∀ (kV doc pm : Value) (an : Option Addr) (cdv ct : Value) (us ws : List Value), us.length = n → ws.length = ks.length →
      bindArgs (PySem.W.fnOf x qual params body scope .none kV doc pm an cdv ct) ⟨us, ks.zip ws⟩ = pure (ps.zip (g us ws))) : KBn K fd ps n ks (fun us ws => g us ws) (fun vs zs => g vs zs) := by
  obtain ⟨oc, od, dV, kV, doc, pm, an, cdv, ct, osl, rfl, lk, hcd, hD, hK⟩ := F.ex
  rcases hD with ⟨_, rfl⟩ | ⟨e, _⟩
  · exact ⟨fun s us ws _ l1 l2 => .of_eq (h kV doc pm an cdv ct us ws l1 l2), fun r1 r2 => hrel r1 r2⟩
  · exact absurd rfl e
theorem fun_of {st : Stmt} {f : Addr} {fd : FuncData} {kws : List (Str × V)} (F : FunD K x qual (defArgs st) (defBody st) (defScope st) [] kws f fd) : Fun K x qual st f fd := by
  obtain ⟨oc, od, dV, kV, doc, pm, an, cdv, ct, osl, e, lk, hcd, hD, hK⟩ := F.ex
  rcases hD with ⟨_, rfl⟩ | ⟨e, _⟩
  · exact ⟨⟨oc, od, kV, doc, pm, an, cdv, ct, osl, e, lk, hcd⟩, F.kp⟩
  · exact absurd rfl e
end
section
variable {X : Cx}
def rInT (K : PySem.W.Frag) (neg : Bool) : R2 := fun x y H Q => ∃ d ds, Dp K H x d ∧ Dp K H y (.tuple ds) ∧ SeqAt.shaped d = true ∧ SeqAt.shaped (.tuple ds) = true ∧
  Q (.bl (if neg then !ds.any fun z => PyData.eqv z d else ds.any fun z => PyData.eqv z d)) H
theorem room_inT {A : Around} {d : PyData} {xs : List PyData} (h : SeqAt.shaped d = true) (hu : A.units + 65 < cLine) : A.units + 1 + min (PyData.depthAll xs) d.depth < cLine := by
  have z := SeqAt.depth_of_shaped h
  have := Nat.min_le_right (PyData.depthAll xs) d.depth
  omega
theorem op_inT (hu : X.A.units + 65 < cLine) : OpR X (compareOp .In) (rInT X.K false) := by
  rintro pins s σ H x y v u Q I rx ry ⟨d, ds, hd, he, sd, se, q⟩
  obtain ⟨as, r1⟩ := Dp.reads I d x v hd rx
  obtain ⟨bs, r2⟩ := Dp.reads I (.tuple ds) y u he ry
  exact SeqAt.in_tuple_reads r2 r1 (SeqAt.canLay_of_shaped se) (SeqAt.canLay_of_shaped sd) (room_inT sd hu) ⟨.bl _, H, I, rfl, q⟩
theorem op_notInT (hu : X.A.units + 65 < cLine) : OpR X (compareOp .NotIn) (rInT X.K true) := by
  rintro pins s σ H x y v u Q I rx ry ⟨d, ds, hd, he, sd, se, q⟩
  obtain ⟨as, r1⟩ := Dp.reads I d x v hd rx
  obtain ⟨bs, r2⟩ := Dp.reads I (.tuple ds) y u he ry
  exact SeqAt.notIn_tuple_reads r2 r1 (SeqAt.canLay_of_shaped se) (SeqAt.canLay_of_shaped sd) (room_inT sd hu) ⟨.bl _, H, I, rfl, q⟩
end
theorem Same.tup {K : PySem.W.Frag} {H H' : Hp} {a : Addr} {xs : List V} (e : Same H H') (h : SqT K H a xs) : SqT K H' a xs := by
  rcases h with (h | ⟨o, h⟩) | h
  · exact .inl (.inl (e _ _ h))
  · exact .inl (.inr ⟨o, e _ _ h⟩)
  · exact .inr h
mutual
theorem Dp.same {K : PySem.W.Frag} {H H' : Hp} (e : Same H H') : ∀ (d : PyData) (v : V), Dp K H v d → Dp K H' v d
  | .none, _, h => by cases h; exact .non
  | .bool b, _, h => by cases h; exact .bl b
  | .int i, _, h => by cases h; exact .int i
  | .str x, _, h => by cases h; exact .str x
  | .list ds, _, h => by
    cases h with
    | lst a b => exact .lst (e.seq a) (DpAll.same e ds _ b)
  | .tuple ds, _, h => by
    cases h with
    | tup a b => exact .tup (Same.tup e a) (DpAll.same e ds _ b)
  | .dict _, _, h => by cases h
theorem DpAll.same {K : PySem.W.Frag} {H H' : Hp} (e : Same H H') : ∀ (ds : List PyData) (vs : List V), DpAll K H vs ds → DpAll K H' vs ds
  | [], _, h => by cases h; exact .nil
  | d :: ds, _, h => by
    cases h with
    | cons a b => exact .cons (Dp.same e d _ a) (DpAll.same e ds _ b)
end
end VG

set_option maxRecDepth 100000
/-! Own exceptions whose __init__ begins with super().__init__('..'). -/
namespace VG
open PySem PySem.Spec PyProof.Rows L2
open PySem.W (ksFn ksEnv)

/-! ### the wrapper that super().__init__ is, called -/
section
variable {prog : Program} {w : World} {A : Around} {E : Value → Shared → Prop} {h : Heap} {g : Array GenState} {d : Drawn} {t : Nat} {os : OsState} {nm q : Str} {C N : Addr} {bs bm : List Value} {hdct : Bool} {sn : List Str} {sub : List Value} {ab : Bool} {col : Option Bool} {dd : Option Addr}
  {k0 k1 k2 k3 k5 : Option Value} {B i newId : String} {bmB : List Value}
theorem call_mw (FB : ExcBaseFacts B newId i bmB) {u e t0 : Addr} {rest : List Value} {Q : Value → Shared → Prop} (hC : h.get? C = some (excClassObj nm q C N bs bm hdct sn sub ab col dd k0 k1 k2 k3 k5 newId)) (he : h.get? e = some (PySem.HandSPX.excO C t0))
    (hu : h.get? u = some (PySem.W.kxs_mw i e)) (hz : rest.length ≤ sizeLine)
    (hq : ∀ h' t1, (∀ b o, b ≠ e → h.get? b = some o → h'.get? b = some o) → h'.get? e = some (PySem.HandSPX.excO C t1) → Q .none ⟨h', g, d, t, os⟩) : wpAny (model prog w) A (call (.ref u) rest) Q E ⟨h, g, d, t, os⟩ := by
  refine wpAny_call (codeAny_of_tree ?_)
  show wpAny _ A.in1 (callAny (.ref u) ⟨rest, []⟩) _ _ _
  simp only [callAny]
  refine wpAny_bind (wpAny_load hu ?_)
  simp only [PySem.W.kxs_mw, show (Value.type "method-wrapper" == Value.type "method" || Value.type "method-wrapper" == Value.type "builtin_function_or_method" || Value.type "method-wrapper" == Value.type "method-wrapper") = true by decide, if_true]
  refine PySem.W.KFB.if_so (by decide) (wpAny_bind (PySem.W.check_bound_init FB.toExcCallFacts hC he rfl (wpAny_bind (wpAny_pure (wpAny_pure ⟨PySem.plainId_quiet FB.init.plain _, codeAny_builtin FB.initEntry ?_⟩)))))
  exact PySem.W.exc_init_tree (cls := .ref C) (t0 := t0) (dv := none) (c2 := .none) (c3 := .none) (b4 := .bool false) he hz fun h' k1 k2 _ => hq h' _ k1 k2
end

/-! ### the frame of such an __init__ -/
/-- no name of its own but the parameters; what it captures is its class alone -/
structure IniScope (ps : List Str) (sc : Scope) : Prop where
  kind : sc.kind = .function
  co : sc.isCoroutine = false
  gen : sc.isGenerator = false
  nd : ps.Nodup
  par : ∀ x ∈ ps, sc.names.lookup x = some .local
  noc : ∀ y ∈ sc.names, y.2 ≠ .cell
  fre : ∀ y ∈ sc.names, y.2 = .free → y.1 = "__class__"
  sup : sc.names.lookup ("super" : Str) = some .globalImplicit
  cls : sc.names.lookup ("__class__" : Str) = some .free
def iniCx (P : Program) (w : World) (K : PySem.W.Frag) (mg : Str → Option Value) (base : Heap) (ps : List Str) (qual : Str) (sc : Scope) (f cda cc : Addr) (A : Around) (outer : List Env) (s : Shared) (H : Hp) : Cx where
  prog := P
  w := w
  K := K
  mg := mg
  base := base
  A := A.deeper (ksEnv qual sc s.heap.objs.size f (.ref cda) cc)
  N := ps
  s_0 := s
  H_0 := H
  env := ksEnv qual sc s.heap.objs.size f (.ref cda) cc
  outer := outer
  stack := ksEnv qual sc s.heap.objs.size f (.ref cda) cc :: outer
  ex := []
  fn := fun _ => false
  calm := true
  pn := []
  xe := fun _ _ => False
theorem lookup_of_mem {x : Str} {u : Value} : ∀ {l : List (Str × Value)}, (l.map (·.1)).Nodup → (x, u) ∈ l → l.lookup x = some u
  | [], _, h => by cases h
  | (y, v) :: r, nd, h => by
    have nd' := List.nodup_cons.mp nd
    rcases List.mem_cons.mp h with e | h2
    · cases e
      simp [List.lookup]
    · have ne : (x == y) = false := by
        refine beq_eq_false_iff_ne.mpr fun z => nd'.1 ?_
        rw [← z]
        exact List.mem_map.mpr ⟨_, h2, rfl⟩
      rw [List.lookup_cons, ne]
      exact lookup_of_mem nd'.2 h2
theorem zip_keys : ∀ {ps : List Str} {us : List Value}, us.length = ps.length → (ps.zip us).map (·.1) = ps
  | [], [], _ => rfl
  | p :: ps, u :: us, h => by
    show p :: (ps.zip us).map (·.1) = p :: ps
    rw [zip_keys (by simpa using h)]
  | [], _ :: _, h => by cases h
  | _ :: _, [], h => by cases h
theorem zip_mem : ∀ {ps : List Str} {us : List Value} {i : Nat} {x : Str} {u : Value}, ps[i]? = some x → us[i]? = some u → (x, u) ∈ ps.zip us
  | [], _, _, _, _, h, _ => by simp at h
  | _ :: _, [], _, _, _, _, h => by simp at h
  | p :: ps, v :: us, 0, x, u, h1, h2 => by
    simp at h1 h2
    subst h1 h2
    exact List.mem_cons_self
  | p :: ps, v :: us, i + 1, x, u, h1, h2 => List.mem_cons_of_mem _ (zip_mem (i := i) (by simpa using h1) (by simpa using h2))
theorem cell_one {x : Str} {cc c : Addr} (h : ([("__class__", cc)] : List (Str × Addr)).lookup x = some c) : x = "__class__" ∧ c = cc := by
  rw [List.lookup_cons] at h
  cases e : (x == ("__class__" : Str)) with
  | true =>
    rw [e] at h
    exact ⟨beq_iff_eq.mp e, (Option.some.inj h).symm⟩
  | false =>
    rw [e] at h
    cases h
theorem ini_start {P : Program} {w : World} {K : PySem.W.Frag} {mg : Str → Option Value} {base : Heap} {ps : List Str} {qual : Str} {sc : Scope} {f cda cc : Addr} {A : Around} {outer : List Env} {s : Shared} {H : Hp} {us : List Value} {vs : List V} {h₁ : Heap} {tk : Nat} {oc : Obj} {v0 : Option Value}
    (S : IniScope ps sc) (hd : A.handled = none) (e0 : Env0 P w K mg base A outer s H) (hl : us.length = ps.length) (r : Vals vs us) (lc : K.lookup cc = some oc) (dc : oc.data = .cell v0)
    (hns : h₁.Ns s.heap.objs.size fun y => (ps.zip us).reverse.lookup y) (hk : ∀ b o, s.heap.get? b = some o → h₁.get? b = some o) :
    Inv (iniCx P w K mg base ps qual sc f cda cc A outer s H) [] (vs.map some) H { s with heap := h₁, toks := tk } := by
  have noA : ∀ b : Addr, b ∉ (iniCx P w K mg base ps qual sc f cda cc A outer s H).ex := fun b z => absurd (show b ∈ ([] : List Addr) from z) (by simp)
  have cb := e0.bs cc oc (e0.mod.kin cc oc lc)
  refine ⟨⟨e0.mod, S.kind, rfl, rfl, Nat.le_refl _, fun x y c h1 h2 => ?_, fun x hx => ?_, fun x c z _ => ?_, fun _ => hd, Around.frames_deeper e0.frames, .inr ⟨rfl, rfl⟩, fun b z => absurd z (noA b), e0.bs, e0.bsz, fun b _ _ => noA b, fun b z => absurd z (noA b), e0.funs, e0.frf⟩,
    rfl, e0.bare, Un.kept hk, ⟨_, hns, fun i x v h1 h2 h3 => ?_⟩, fun x c h => ?_, e0.hok.fresh (Nat.le_refl _), fun x c h => ?_, fun p hp => absurd (show p ∈ ([] : List (Addr × Obj)) from hp) (by simp), e0.hok.kept hk, ?_⟩
  · exact (cell_one h1).1.trans (cell_one h2).1.symm
  · have hx : sc.names.lookup x = some .cell ∨ sc.names.lookup x = some .free := hx
    rcases hx with z | z
    · exact absurd rfl (S.noc _ (PySem.mem_of_lookup z))
    · have e := S.fre _ (PySem.mem_of_lookup z) rfl
      have e : x = "__class__" := e
      subst e
      exact ⟨cc, show ([("__class__", cc)] : List (Str × Addr)).lookup ("__class__" : Str) = some cc by simp [List.lookup]⟩
  · have z : false = true := z
    cases z
  · have hi : i < vs.length := by
      by_cases z : i < vs.length
      · exact z
      · rw [List.getElem?_eq_none (by rw [List.length_map]; omega)] at h2
        cases h2
    have ha : vs[i]? = some v := by
      rw [List.getElem?_map] at h2
      cases e : vs[i]? with
      | none => rw [e] at h2; cases h2
      | some a => rw [e] at h2; cases h2; rfl
    obtain ⟨u, hu, rv⟩ := r.get ha
    have kl := S.par x (List.mem_of_getElem? h1)
    refine ⟨u, rv, .inl ⟨kl, ?_⟩⟩
    refine lookup_of_mem ?_ (List.mem_reverse.mpr (zip_mem h1 hu))
    rw [List.map_reverse, zip_keys hl]
    exact List.pairwise_reverse.mpr (S.nd.imp Ne.symm)
  · obtain ⟨_, rfl⟩ := cell_one h
    exact ⟨v0, oc, hk _ _ cb.1, dc⟩
  · obtain ⟨_, rfl⟩ := cell_one h
    exact cb.2
  · show (vs.map some).length = ps.length
    rw [List.length_map, r.length, hl]

/-! ### such an __init__ keeps a promise -/
/-- what the written part tells of the class at C, of its __init__ at f (its cell at cc, its code at cda) -/
structure IniTxt (P : Program) (K : PySem.W.Frag) (mg : Str → Option Value) (B i newId : String) (bmB : List Value) (C f cc cda : Addr) (qual : Str) (params : Arguments) (body : List Stmt) (sc : Scope) (fd : FuncData) : Prop where
  kf : PySem.W.KxsFacts B i
  fb : ExcBaseFacts B newId i bmB
  fn : ∃ oc od dV kV doc pm an ct osl, fd = ksFn "__init__" qual params body sc dV kV doc pm an (.ref cda) ct cc ∧ K.lookup f = some ⟨oc, od, .func fd, osl⟩
  code : PySem.W.codeIn K (.ref cda) qual = true
  file : ∃ ccl cdd vs ccs tf, K.lookup cda = some ⟨ccl, cdd, .fields vs, ccs⟩ ∧ vs[2]? = some (.str P.main.file tf)
  cell : ∃ cl cld csl, K.lookup cc = some ⟨cl, cld, .cell (some (.ref C)), csl⟩
  cls : ∃ nm q N bs bm hdct sn sub ab col dd k0 k1 k2 k3 k5, K.lookup C = some (excClassObj nm q C N bs bm hdct sn sub ab col dd k0 k1 k2 k3 k5 newId)
  up : PySem.W.ks_superIn K C C "__init__" = some (some (.builtin i))
  isB : PySem.W.subIn K (.ref C) (.type B) = some true
  self : PySem.W.mroIn K C (.ref C) = some true
  opq : PySem.W.nsIn K cStatics "thirdparty.any" = some none
  sup : mg "super" = none
  top : (P.main.scope.names.lookup ("super" : Str)).isSome = false
abbrev superInit (p0 p1 p2 p3 p4 p5 : Pos) (j : Nat) (z : Str) : Stmt := .Expr (.Call (.Attribute (.Call (.Name "super" p0) [] [] p1) "__init__" p2) [.Constant (.str z) j p3] [] p4) p5
def spIni (C : Addr) (t : TS) : Sp := fun vs H Q _ => ∃ (a : Addr) (ws : List V), vs = .ref a :: ws ∧ H a = some (exo a C none) ∧ t { nx := fun _ H' => Q .non H', rt := Q } (vs.map some) H
section
variable {P : Program} {w : World} {K : PySem.W.Frag} {mg : Str → Option Value} {base : Heap} {B i newId : String} {bmB : List Value} {C f cc cda : Addr} {qual : Str} {params : Arguments} {rest : List Stmt} {sc : Scope} {fd : FuncData} {ps : List Str} {p0 p1 p2 p3 p4 p5 : Pos} {j k : Nat} {z : Str} {self : Arg} {sp : Sp}
/-- how super().__init__('..') is run, where it stands on one line -/
def SupEv (p0 p1 p2 p3 p4 : Pos) (j : Nat) (z : Str) : Prop := ∀ env : Env, ∃ pl : Sem Bool, eval (.Call (.Attribute (.Call (.Name "super" p0) [] [] p1) "__init__" p2) [.Constant (.str z) j p3] [] p4) env = (do
  let ov ← attributeBase (.Call (.Name "super" p0) [] [] p1) "__init__" env (eval (.Call (.Name "super" p0) [] [] p1) env)
  standAt p2.atName
  let (f, first) ← holding [ov] (getMethod ov "__init__" pl)
  callWith p4 f first (backTo p4 (starEach [.Constant (.str z) j p3] env)) [])
theorem ini_ok (hev : SupEv p0 p1 p2 p3 p4 j z) (T : IniTxt P K mg B i newId bmB C f cc cda qual params (superInit p0 p1 p2 p3 p4 p5 j z :: rest) sc fd) (S : IniScope ps sc) (hself : (params.posonlyargs ++ params.args).head? = some self) (hp0 : ps[0]? = some self.arg)
    (many : ∀ vs H Q E, sp vs H Q E → vs.length = ps.length)
    (body : ∀ (A : Around) (outer : List Env) (s : Shared) (H : Hp) (vs : List V) (Q : VK) (E : XK), Room k (A.deeper (ksEnv qual sc s.heap.objs.size f (.ref cda) cc)) → sp vs H Q E →
      ∃ a ws, vs = .ref a :: ws ∧ H a = some (exo a C none) ∧ ∃ t, PSs (iniCx P w K mg base ps qual sc f cda cc A outer s H) rest t ∧ t { nx := fun _ H' => Q .non H', rt := Q } (vs.map some) H) :
    FnOk P w K mg base CX0 (k + 1) f fd ps sp := by
  obtain ⟨oc, od, dV, kV, doc, pm, an, ct, osl, rfl, lk⟩ := T.fn
  obtain ⟨ccl, cdd, cvs, ccs, tf, lcode, hfile⟩ := T.file
  obtain ⟨cl, cld, csl, lcell⟩ := T.cell
  obtain ⟨nm, q, N, bs, bm, hdct, sn, sub, ab, col, dd, k0, k1, k2, k3, k5, lC⟩ := T.cls
  refine ⟨many, fun A outer s H args us vs Q E hr e0 hb r hsp => ?_⟩
  have KX : K.In s.heap := e0.mod.kin.keeps fun b o e => (e0.bs b o e).1
  have lim : s.heap.NoLimit := e0.mod.nolimit.keeps fun b o e => (e0.bs b o e).1
  have hl : us.length = ps.length := r.length.symm.trans (many _ _ _ _ hsp)
  refine PySem.ks_codeAny_call_defAt (body := superInit p0 p1 p2 p3 p4 p5 j z :: rest) (binds := ps.zip us) hr.depth (KX _ _ lk) rfl lim (PySem.W.codeRec_of KX T.code) rfl hb S.noc (fun y hy => S.par y.1 (List.of_mem_zip hy).1) (fun h₁ hns hk => ?_) S.co S.gen S.kind
  obtain ⟨a, ws, rfl, hea, t, ht, hq⟩ := body A outer s H vs Q E (hr.deeper _) hsp
  have I : Inv (iniCx P w K mg base ps qual sc f cda cc A outer s H) [] ((V.ref a :: ws).map some) H { s with heap := h₁, toks := s.toks + (ps.zip us).length } := ini_start S hr.hd e0 hl r lcell rfl hns hk
  have hu0 : us[0]? = some (.ref a) := by
    obtain ⟨u, h1, h2⟩ := r.get (i := 0) (x := .ref a) rfl
    rw [h1]
    exact congrArg some h2
  have hself' : (ps.zip us).reverse.lookup self.arg = some (.ref a) := by
    refine lookup_of_mem ?_ (List.mem_reverse.mpr (zip_mem hp0 hu0))
    rw [List.map_reverse, zip_keys hl]
    exact List.pairwise_reverse.mpr (S.nd.imp Ne.symm)
  have fin : ∀ {σ' : L2.St} {H' : Hp} {v : V} {u : Value} {s' : Shared}, Inv (iniCx P w K mg base ps qual sc f cda cc A outer s H) [] σ' H' s' → RelV v u → Q v H' → CE outer P w H s Q u s' := fun J rv q => ⟨_, _, J.os, J.bare, J.base, J.hok, rv, q⟩
  have X1 := I.kIn
  obtain ⟨mb, hmb, hbb⟩ := I.mod.blt
  obtain ⟨t0, hoe⟩ := exo_at I.hok hea
  have hC1 := X1 _ _ lC
  have hcd : PySem.W.clsIn K C = some { name := nm, bases := bs, mro := .ref C :: bm, ns := N, qualname := q, hasDict := hdct, slotNames := sn, subclasses := sub, abstract := ab, collection := col, hasDel := false } := by
    unfold PySem.W.clsIn
    rw [lC] <;> rfl
  have hint : interactive (ksEnv qual sc s.heap.objs.size f (.ref cda) cc) = false := by
    unfold interactive
    simp [S.kind]
  obtain ⟨pl, he⟩ := hev (ksEnv qual sc s.heap.objs.size f (.ref cda) cc)
  refine PySem.ks_wpAt_execs_cons (PySem.ks_wpAt_Expr_any (PySem.ks_wpAt_MethodCall (pl := pl) ?_ he) hint)
  refine PySem.ks_wpAt_super_base (env := ksEnv qual sc s.heap.objs.size f (.ref cda) cc) S.sup S.cls (by decide) rfl (X1 _ _ lk) rfl hself rfl (X1 _ _ lcode) rfl hfile (beq_self_eq_true _) T.top ?_
  refine PySem.W.ks_loadName_global S.kind S.sup (Calls.loadGlobal_builtin (env := ksEnv qual sc s.heap.objs.size f (.ref cda) cc) (I.mod.glob.keeps I.bk) T.sup (hmb.keeps I.bk) ((hbb "super" (by decide +kernel)).trans PyProof.Rows.Boot.«super») ⟨rfl, ?_⟩)
  refine wpAny_loadName_free S.kind S.cls rfl ⟨_, X1 _ _ lcell, rfl⟩ ?_
  refine wpAny_loadName_local S.kind (S.par _ (List.mem_of_getElem? hp0)) hns hself' ?_
  refine PySem.ks_wpAny_isType_cls hC1 rfl ⟨rfl, ?_⟩
  refine PySem.ks_wpAny_call_super hC1 rfl hoe rfl (fun c e => by cases e) (PySem.W.looks_mroIn X1 T.self) (fun h2 e2 k2 => ?_)
  have I2 := I.kept (t' := s.toks + (ps.zip us).length) k2
  have X2 := I2.kIn
  have hoe2 := k2 _ _ hoe
  have J2 : PySem.W.InstAt h2 a (PySem.HandSPX.excO C t0) C none := ⟨hoe2, rfl, rfl, trivial⟩
  have hup : PySem.W.alongIn K "__init__" (((Value.ref C :: bm).dropWhile (· != .ref C)).drop 1) = some (some (.builtin i)) := by
    have z := T.up
    unfold PySem.W.ks_superIn at z
    rw [hcd] at z
    exact z
  have haC : a ≠ C := fun z => by
    have n := (I.bs C _ (I.mod.kin _ _ lC)).2
    rw [← z, hea] at n
    cases n
  refine PySem.W.kxs_getMethod T.kf e2 (PySem.W.looks_opaque X2 T.opq) (l₀ := .ref C :: bm) (fun A Q E s k q => wpAny_bind ((PySem.W.looks_clsIn X2 hcd) A _ E s k (wpAny_pure q))) rfl X2 hup (J2.type.andThen (PySem.W.looks_subIn X2 T.isB)) haC (by decide) ?_
  have I3 : Inv (iniCx P w K mg base ps qual sc f cda cc A outer s H) [(h2.objs.size, PySem.W.kxs_mw i a)] ((V.ref a :: ws).map some) H ⟨h2.push (PySem.W.kxs_mw i a), s.gens, s.drawn, s.toks + (ps.zip us).length + 1, s.os⟩ :=
    ClX.pin_new (s := ⟨h2, s.gens, s.drawn, s.toks + (ps.zip us).length, s.os⟩) (t' := s.toks + (ps.zip us).length + 1) I2 (fun b o e => Heap.get?_push_of_some _ e) (Nat.le_refl _) (Heap.get?_push_size _ rfl) (fun v z => nomatch z)
  refine PySem.W.kxs_callWith (i := i) (x := a) rfl (PySem.Calls.evalArgs_plain ?_)
  have PA1 : PA (iniCx P w K mg base ps qual sc f cda cc A outer s H) [.Constant (.str z) j p3] (tCons (tC (.str z)) tNil) := pa_cons pe_str pa_nil
  refine thnF (PA1.run p4 _ _ ((V.ref a :: ws).map some) H (fun vs H' => vs.length ≤ 1 ∧ H' = H) I3 ⟨Nat.le_refl _, rfl⟩) fun us4 s4 ⟨vs4, H4, I4, r4, l4, e4⟩ => ?_
  subst e4
  refine ⟨ClX.pin_at I4, ?_⟩
  have X4 := I4.kIn
  obtain ⟨t4, hoe4⟩ := exo_at I4.hok hea
  obtain ⟨g4, gs4, d4, tk4, os4⟩ := s4
  refine call_mw T.fb (X4 _ _ lC) hoe4 (ClX.pin_at I4) (by show us4.length ≤ sizeLine; rw [← r4.length, sizeLine_eq]; omega) fun h5 t5 k5 e5 => ?_
  have I5 := (ClX.unpin I4).write (t' := tk4) (x := a) (e := a) (o := exo a C none) (by rw [hea]; exact True.intro) (.inl rfl) k5 ⟨_, e5⟩ (exo_ok e5)
  have eu : upd H4 a (exo a C none) = H4 := by
    funext b
    by_cases hb : b = a
    · rw [hb, upd_same, hea]
    · rw [upd_ne hb]
  rw [eu] at I5
  refine wpAt_of_wpAny (thnF (ht.run [] _ _ _ _ I5 hq) fun fl s' hs => ?_)
  match fl, hs with
  | .ret u, hs =>
    obtain ⟨v, σ', H', J, rv, q⟩ := hs
    exact fin J rv q
  | .next, hs =>
    obtain ⟨σ', H', J, q⟩ := hs
    exact fin (v := V.non) (u := Value.none) J rfl q
  | .brk, hs =>
    obtain ⟨_, _, _, q⟩ := hs
    exact False.elim q
  | .cont, hs =>
    obtain ⟨_, _, _, q⟩ := hs
    exact False.elim q
end
end VG

set_option maxRecDepth 100000
/-! The name of an exception's class; errors that keep what they were given. -/
namespace VG
open PySem PySem.Spec PyProof.Rows L2

/-! ### o.__class__ of an own exception, C.__name__ of an own class -/
structure ClsTxt (K : PySem.W.Frag) (C : Addr) (nm : Str) : Prop where
  ga : PySem.W.findIn K (.ref C) "__getattribute__" = some (some (.builtin "BaseException.__getattribute__"))
  gg : PySem.W.findIn K (.ref C) "__getattr__" = some none
  exC : PySem.W.subIn K (.ref C) (.type "BaseException") = some true
  isC : (PySem.W.clsIn K C).isSome = true
  ca : PySem.W.findIn K (.ref C) "__class__" = some (some (.builtin "object.__class__"))
  cn : PySem.W.specialIn K (.builtin "object.__class__") "__get__" = some (some (.builtin "getset_descriptor.__get__"))
  ct : PySem.W.takesIn K (.builtin "object.__class__") = some true
  cm : PySem.W.mroIn K C (.type "object") = some true
  rd : PySem.W.readsIn K C (.type "type") = true
  na : PySem.W.findCls K (.ref C) (.type "type") "__name__" = some (.get (.builtin "getset_descriptor.__get__") (.builtin "type.__name__") (.ref C) (.type "type"))
  ty : PySem.W.typeIn K (.ref C) = some (.type "type")
  nm : ∃ oc od dt sl tk, K.lookup C = some ⟨oc, od, dt, sl⟩ ∧ sl[2]? = some (some (.str nm tk))
section
variable {prog : Program} {w : World} {A : Around} {E : Value → Shared → Prop} {s : Shared} {K : PySem.W.Frag} {C x : Addr} {nm : Str} {ox : Obj} {od : Option Obj}
theorem find_class (T : ClsTxt K C nm) : PySem.W.findObj K C od "__class__" = some (.bind (.builtin "getset_descriptor.__get__") (.builtin "object.__class__")) := by
  obtain ⟨cd, hc⟩ := Option.isSome_iff_exists.mp T.isC
  unfold PySem.W.findObj
  rw [hc, Option.bind_some, T.ca, Option.bind_some]
  simp [T.cn, T.ct]
theorem get_class {expr : Bool} {Q : Value → Shared → Prop} (T : ClsTxt K C nm) (X : K.In s.heap) (I : PySem.W.InstAt s.heap x ox C od) (h : Q (.ref C) { s with toks := s.toks + 1 }) : wpAny (model prog w) A (getAttr (.ref x) "__class__" expr) Q E s := by
  obtain ⟨hp, g, d, t, os⟩ := s
  have ty := I.type (M := model prog w)
  have own : (onTheHeap (Value.ref C) && Value.builtin "BaseException.__getattribute__" == Value.builtin "object.__getattribute__") = false := by
    rw [show (Value.builtin "BaseException.__getattribute__" == Value.builtin "object.__getattribute__") = false by decide +kernel, Bool.and_false]
  have plain : (expr && onTheHeap (Value.builtin "BaseException.__getattribute__")) = false := by cases expr <;> rfl
  unfold getAttr getAttrBy
  refine wpAny_bind (wpAny_mkText (wpAny_holding (wpAny_bind (ty.at (wpAny_bind ((PySem.W.looks_findIn X T.ga).at ?_))))))
  dsimp only
  rw [own, if_neg (by decide)]
  unfold getAttrByItsOwn hookBefore
  refine wpAny_bind ?_
  rw [if_pos (show onTheHeap (Value.ref C) = true from rfl)]
  refine (PySem.W.looks_findIn X T.gg).at (wpAny_bind (wpAny_attempt (wpAny_holding ?_)))
  unfold callGetattribute
  rw [plain, if_neg (by decide)]
  unfold boundAndCalled
  rw [PySem.F.excAttr_ValueError.ga.bind (.ref x)]
  refine wpAny_bind (wpAny_pure (wpAny_call (codeAny_call_builtin PySem.F.excAttr_ValueError.ga.plain PySem.F.entry_bexc_ga ?_)))
  refine @PySem.W.check_slot (model prog w) _ _ ⟨hp, g, d, t + 1, os⟩ "BaseException.__getattribute__" "BaseException" "__getattribute__" (.ref x) [.str "__class__" t] [] _ (by decide +kernel) (by decide +kernel)
    (ty.andThen (PySem.W.looks_subIn X T.exC)) (PySem.F.args_bexc_ga (.ref x) (.str "__class__" t)) ?_
  unfold Builtin.«object.__getattribute__»
  refine wpAny_bind (wpAny_of_eq (a := ((Value.ref x : Value), [Value.str "__class__" t])) (by first | rfl | (simp only [slotArgs]; rfl)) ?_)
  refine wpAny_bind (wpAny_pure (wpAny_bind (ty.at (wpAny_bind ((PySem.W.looks_find X I (find_class T)).at ?_)))))
  refine wpAny_bind (wpAny_holding (wpAny_call (PySem.W.class_get (s := ⟨hp, g, d, t + 1, os⟩) X I T.cm ?_)))
  refine wpAny_pure ?_
  exact PySem.W.handed_on (v := .ref C) rfl h
theorem get_name {expr : Bool} {Q : Value → Shared → Prop} (T : ClsTxt K C nm) (X : K.In s.heap) (h : ∀ tk, Q (.str nm tk) { s with toks := s.toks + 1 }) : wpAny (model prog w) A (getAttr (.ref C) "__name__" expr) Q E s := by
  obtain ⟨oc, od, dt, sl, tk, lC, hsl⟩ := T.nm
  refine PySem.W.cls_bind X T.rd T.na ?_
  obtain ⟨hp, g, d, t, os⟩ := s
  have hC := X _ _ lC
  have ty : PySem.W.Looks (model prog w) hp (typeOf (.ref C)) (.type "type") := PySem.W.looks_typeIn X T.ty
  have L1 : PySem.W.Looks (model prog w) hp (isSubtype (.type "type") (.type "type")) true := PySem.W.Looks.of_pure (by rw [isSubtype_type]; kernel_rfl)
  refine wpAny_call (codeAny_call_builtin PySem.W.KF.slot_gs.plain PySem.W.KF.entry_gs (PySem.W.KF.slot_gs.check _ _ _ _ _ _ _ _ PySem.W.ktyn_type (PySem.W.KF.args_gs _ _ _) ?_))
  unfold Builtin.«getset_descriptor.__get__» Builtin.Getset_descriptor.descrGet
  rw [PySem.W.dga_obj]
  refine wpAny_bind (wpAny_pure ?_)
  unfold Builtin.Getset_descriptor.descrGetter Builtin.Getset_descriptor.descrCheckInstance Builtin.Getset_descriptor.descrNameAndClass isInstance
  simp only [PySem.W.ktyn_owner]
  repeat lk
  refine ⟨Code.quiet_builtin _ (by decide +kernel), codeAny_builtin PySem.W.ktyn_entry ?_⟩
  unfold Builtin.«type.__name__» Builtin.keptObject slotAt
  dsimp only
  refine wpAny_bind (wpAny_bind (wpAny_bind (wpAny_loadPart_at hC (wpAny_pure ?_))))
  rw [hsl]
  exact wpAny_pure (wpAny_pure (PySem.W.handed_on (v := .str nm tk) rfl (h tk)))
end
/-- o.__class__.__name__, o an exception that is being made -/
def tClsName (K : PySem.W.Frag) (to : TE) : TE := fun σ H Q => to σ H fun x H1 => ∃ (a C : Addr) (nm : Str), x = .ref a ∧ ClsTxt K C nm ∧ (H1 a = some (exo a C none) ∨ ∃ (dx : Addr) (fs : List (Str × V)), H1 a = some (exo a C (some dx)) ∧ H1 dx = some (exd dx fs)) ∧ Q (.str nm) H1
theorem pe_clsName {X : Cx} {o : Expr} {to : TE} {p1 p2 : Pos} (ho : PE X o to) (b1 : attributeBase o "__class__" X.env (eval o X.env) = eval o X.env := by rfl)
    (b2 : attributeBase (.Attribute o "__class__" p1) "__name__" X.env (eval (.Attribute o "__class__" p1) X.env) = eval (.Attribute o "__class__" p1) X.env := by rfl) :
    PE X (.Attribute (.Attribute o "__class__" p1) "__name__" p2) (tClsName X.K to) := by
  refine ⟨fun pins s σ H Q I h => ?_⟩
  refine attr_of b2 (attr_of b1 (thn (ho.run pins s σ H _ I h) fun u s1 ⟨x, H1, I1, rx, a, C, nm, ex, T, hea, q⟩ => ?_))
  subst ex
  obtain rfl : u = Value.ref a := rx
  have fin : ∀ {ox : Obj} {od : Option Obj}, PySem.W.InstAt s1.heap a ox C od → wpAny (model X.prog X.w) X.A (getAttr (.ref a) "__class__" true) (fun o s₁ => wpAny (model X.prog X.w) X.A (getAttr o "__name__" true) (EP X pins σ Q) X.xe s₁) X.xe s1 := fun J =>
    get_class T I1.kIn J (get_name T (I1.tok _).kIn fun tk => ⟨.str nm, H1, (I1.tok _).tok _, ⟨tk, rfl⟩, q⟩)
  rcases hea with e | ⟨dx, fs, e, ed⟩
  · obtain ⟨t1, ho1⟩ := exo_at I1.hok e
    exact fin (od := none) ⟨ho1, rfl, rfl, trivial⟩
  · obtain ⟨t1, ho1⟩ := exo_at I1.hok e
    obtain ⟨mA, hns, rel⟩ := exd_at I1.hok ed
    obtain ⟨oD, _, _, hoD, _, _⟩ := hns.count (within_of rel)
    exact fin (od := some oD) ⟨ho1, rfl, rfl, hoD⟩
end VG

set_option maxRecDepth 100000
/-! try: .. except (A, B, C) as n: .. -/
namespace VG
open PySem PySem.Spec PyProof.Rows L2

theorem flying_kept {B h h' : Heap} {l : List Env} {a : Addr} {Z : Obj → Prop} (k : ∀ b o, h.get? b = some o → h'.get? b = some o) (x : HandSPX.FlyingZ B l a Z h) : HandSPX.FlyingZ B l a Z h' := by
  obtain ⟨st, nb, ff, oe, vs, T, oT, ts, h1, h2, h3, h4, h5, h6, h7, h8, h9⟩ := x
  exact ⟨fun b o e => k b o (st b o e), nb, ff.of_keeps fun b o e _ => ⟨o, k b o e, rfl⟩, oe, vs, T, oT, ts, k _ _ h1, h2, h3, h4, h5, h6, k _ _ h7, h8, h9⟩
/-- what such a clause wishes of an exception of the body (one of another class is not looked at here) -/
def wAs3 (K : PySem.W.Frag) (cs : List Value) (i n : Nat) (ts : Addr → Value → Option Addr → TS) (D : Ends) : WX := fun cls d σ H => PySem.W.exmAny K cls cs = some true ∧
  ∀ a, H a = none → σ.length = n → ts a cls d { nx := fun σ' H' => D.nx (σ'.set i none) H', rt := D.rt, bk := fun σ' H' => D.bk (σ'.set i none) H', ct := fun σ' H' => D.ct (σ'.set i none) H' } (σ.set i (some (.ref a))) H
section
variable {X : Cx} {x1 x2 x3 n : Str} {c1 c2 c3 : Value} {i j : Nat} {body suite : List Stmt} {b₀ : Stmt} {q1 q2 q3 tpos pos pos' : Pos} {tb : WX → TS} {ts : Addr → Value → Option Addr → TS}
theorem name_at {pins : List (Addr × Obj)} {σ : L2.St} {H : Hp} {s : Shared} {x : Str} {c : Value} {p : Pos} {E : Value → Shared → Prop} {Q : Value → Shared → Prop} (I : Inv X pins σ H s) (hc : Names X x c) (q : Q c s) : wpAny (model X.prog X.w) X.A (eval (.Name x p) X.env) Q E s := by
  obtain ⟨hg, hd, hm | ⟨hm, hv, hn⟩⟩ := hc
  · exact ld_glob I hg hm q hd
  · exact ld_blt I hg hm hv q hn hd
theorem ps_try_as3 (hs : X.stack = X.env :: X.outer) (hf : X.env.frame = some X.env.locals) (hN : X.N.Nodup) (hi : X.N[i]? = some n) (hln : X.env.kindOf n = some .local) (n1 : Names X x1 c1) (n2 : Names X x2 c2) (n3 : Names X x3 c3)
    (hb : ∀ (W : WX) (pn : List (Addr × Obj)) (xe : Value → Shared → Prop), Takes (X.tr pn xe) W → PassesOwn (model X.prog X.w) X.A X.env xe → PSs (X.tr pn xe) body (tb W))
    (hsu : ∀ (a : Addr) (oe : Obj) (cls : Value) (d : Option Addr) (pn : List (Addr × Obj)), Zc cls d oe → (∃ vs, oe.data = .fields vs) → PSs (X.suite a ((a, oe) :: pn)) (b₀ :: suite) (ts a cls d)) :
    PS X (.Try body [.ExceptHandler (some (.Tuple [.Name x1 q1, .Name x2 q2, .Name x3 q3] j tpos)) (some n) (b₀ :: suite) pos'] [] [] pos) (fun D σ H => tb (wAs3 X.K [c1, c2, c3] i X.N.length ts D) D σ H) := by
  refine ⟨fun pins s σ H D I h => ?_⟩
  have ok := I.ok
  have hfr : X.A.frames = some (X.env :: X.outer) := by rw [ok.frames, hs]
  have loc : Loc X.env.scope n := .inl hln
  refine wpAny_Try_except (wpAny_mono ((hb (wAs3 X.K [c1, c2, c3] i X.N.length ts D) (X.pn ++ pins) (fun e s₁ => wpAny (model X.prog X.w) X.A (noteFrame e X.env) (fun _ s₂ => wpAny (model X.prog X.w) X.A (setFlight e none) (fun _ s₃ =>
    wpAny (model X.prog X.w) X.A (handleBy e X.env [.ExceptHandler (some (.Tuple [.Name x1 q1, .Name x2 q2, .Name x3 q3] j tpos)) (some n) (b₀ :: suite) pos']) (SP X pins D) X.xe s₃) X.xe s₂) X.xe s₁) (fun u s' xx => ?_) PassesOwn.looking).run [] s σ H D (I.toTry _) h)
    (fun f s1 hsp => ?_) (fun e s1 he => he))
  · obtain ⟨a, B, sI, pins', σ', H', cls, d, rfl, J', nb, up, sky, na, os, ag, yes, go⟩ := xx
    have J : Inv X pins σ' H' sI := J'.ofTry ok
    refine Sky.land Zc.steady hfr hf (show Sky B (X.env :: X.outer) a (Zc cls d) X.env.locals s'.heap by rw [← hs]; exact sky) fun h3 fl3 up3 => ?_
    have J3 : Inv X pins σ' H' { s' with heap := h3 } := J.landed nb fl3.1 (up.trans up3) os ag
    obtain ⟨oe3, vs3, he3, hz3, hd3⟩ := fl3.there
    have nfr : a ∉ frs (X.env :: X.outer) := fun hm => by
      obtain ⟨_, o', e', z⟩ := fl3.2.2.1.mem hm
      rw [he3] at e'
      cases e'
      exact z _ hd3
    have nL : a ≠ X.env.locals := fun z => nfr (List.mem_filterMap.mpr ⟨X.env, List.mem_cons_self, by rw [hf, z]⟩)
    have nF : a ∉ X.fs := fun hm => by
      obtain ⟨e, he, q⟩ := List.mem_filterMap.mp hm
      exact nfr (List.mem_filterMap.mpr ⟨e, List.mem_cons_of_mem _ he, q⟩)
    have S3 := J3.suite he3 hd3 na nL nF
    have up13 := up.trans up3
    refine wpAny_handleBy_cons (codeAny_handlers_test ?_) (by intro q; cases q)
    refine wpAny_Tuple (wpAny_items_cons (name_at (X := X.suite a ((a, oe3) :: (X.pn ++ pins))) S3 n1 (wpAny_items_cons (name_at (X := X.suite a ((a, oe3) :: (X.pn ++ pins))) S3 n2 (wpAny_items_cons (name_at (X := X.suite a ((a, oe3) :: (X.pn ++ pins))) S3 n3 (wpAny_items_nil ⟨by size_fits, ?_⟩)))))))
    have kp : ∀ q o, h3.get? q = some o → (h3.push { cls := .type "tuple", data := .seq [c1, c2, c3].toArray }).get? q = some o := fun _ _ z => Heap.get?_push_of_some _ z
    have ty : PySem.W.Looks (model X.prog X.w) (h3.push { cls := .type "tuple", data := .seq [c1, c2, c3].toArray }) (typeOf (.ref a)) cls := fun A Q E s k q => wpAny_typeOf_ref (k _ _ (kp _ _ he3)) (by rw [hz3.1]; exact q)
    have fl4 := flying_kept kp fl3
    have up4 : h3.UpToSlots (h3.push { cls := .type "tuple", data := .seq [c1, c2, c3].toArray }) := .of_keeps kp
    have J4 : Inv X pins σ' H' { s' with heap := h3.push { cls := .type "tuple", data := .seq [c1, c2, c3].toArray } } := J.landed nb fl4.1 (up13.trans up4) os ag
    refine (PySem.W.exm_tup3 J4.kIn ty (Heap.get?_push_size h3 rfl) yes).here ?_
    refine codeAny_handlers_suite_as (HandSPX.lands_againZ fl4 fun h5 fl5 up5 => ?_)
    have J5 : Inv X pins σ' H' { s' with heap := h5 } := J.landed nb fl5.1 ((up13.trans up4).trans up5) os ag
    obtain ⟨oe5, vs5, he5, hz5, hd5⟩ := fl5.there
    have S5 := J5.suite he5 hd5 na nL nF
    refine store_ok (X := X.suite a ((a, oe5) :: (X.pn ++ pins))) (v := .ref a) S5 hN hi loc rfl (fun s6 S6 => ?_) (.inr hln)
    refine wpAny_mono ((hsu a oe5 cls d (X.pn ++ pins) hz5 ⟨_, hd5⟩).run [] s6 _ H' _ S6 (go a na J.len)) (fun f s7 hsp => ?_) (fun _ _ z => False.elim z)
    have fin : ∀ {σ7 : L2.St} {H7 : Hp} {Q : Shared → Prop}, Inv (X.suite a ((a, oe5) :: (X.pn ++ pins))) [] σ7 H7 s7 → (∀ s8, Inv X pins (σ7.set i none) H7 s8 → Q s8) →
        wpAny (model X.prog X.w) X.A (do bindName X.env n .none; unbindBehindTheSuite X.env n pos') (fun _ s8 => Q s8) X.xe s7 := fun S7 q => gone_ok (S7.unsuite ok) hN hi hln q
    match f, hsp with
    | .next, ⟨_, _, S7, q⟩ => exact fin S7 fun s8 J8 => ⟨_, _, J8, q⟩
    | .brk, ⟨_, _, S7, q⟩ => exact fin S7 fun s8 J8 => ⟨_, _, J8, q⟩
    | .cont, ⟨_, _, S7, q⟩ => exact fin S7 fun s8 J8 => ⟨_, _, J8, q⟩
    | .ret u, ⟨v, _, _, S7, r, q⟩ => exact fin S7 fun s8 J8 => ⟨_, _, _, J8, r, q⟩
  · match f, hsp with
    | .next, ⟨σ', H', J', q⟩ => exact wpAny_execs_nil ⟨σ', H', J'.ofTry ok, q⟩
    | .brk, ⟨σ', H', J', q⟩ => exact ⟨σ', H', J'.ofTry ok, q⟩
    | .cont, ⟨σ', H', J', q⟩ => exact ⟨σ', H', J'.ofTry ok, q⟩
    | .ret u, ⟨v, σ', H', J', r, q⟩ => exact ⟨v, σ', H', J'.ofTry ok, r, q⟩
end
end VG

set_option maxRecDepth 100000
/-! A def that is called within a suite with the exception that is in hand; it reads its fields and raises nothing. -/
namespace VG
open PySem PySem.Spec PyProof.Rows L2
open L2H (RoomH PinOk cxH inv_startH)
/-- p: the exception's address and its object -/
structure FnE (P : Program) (w : World) (K : PySem.W.Frag) (mg : Str → Option Value) (base : Heap) (CX : CXT) (k : Nat) (f : Addr) (fd : FuncData) (ps : List Str) (sp : Addr × Obj → Sp) : Prop where
  many : ∀ p vs H Q E, sp p vs H Q E → vs.length = ps.length
  runs : ∀ (A : Around) (outer : List Env) (s : Shared) (H : Hp) (args : Args) (us : List Value) (vs : List V) (Q : VK) (E : XK) (p : Addr × Obj), RoomH k A → PinOk outer H s p → Env0 P w K mg base A outer s H →
    BindsTo s fd args (ps.zip us) → Vals vs us → sp p vs H Q E → codeAny (model P w) A (.call (.ref f) args) (CR CX outer P w H s Q E) s
section
variable {P : Program} {w : World} {K : PySem.W.Frag} {mg : Str → Option Value} {base : Heap}
theorem okE {x qual : Str} {st : Stmt} {f : Addr} {fd : FuncData} {N ps : List Str} {k : Nat} {sp : Addr × Obj → Sp} (F : Fun K x qual st f fd) (S : FnScope N ps (defScope st)) (many : ∀ p vs H Q E, sp p vs H Q E → vs.length = ps.length)
    (body : ∀ (cdv : Value) (A : Around) (outer : List Env) (s : Shared) (H : Hp) (vs : List V) (Q : VK) (E : XK) (p : Addr × Obj), RoomH k (A.deeper (envOfC qual (defScope st) s.heap.objs.size f cdv)) → sp p vs H Q E →
      ∃ t, PSs (cxH CX0 P w K mg base N qual (defScope st) f cdv A outer s H E p).nox (defBody st) t ∧ t { nx := fun _ H' => Q .non H', rt := Q } (L2.start N vs) H) : FnE P w K mg base CX0 (k + 1) f fd ps sp := by
  obtain ⟨oc, od, kV, doc, pm, an, cdv, ct, osl, rfl, lk, hcd⟩ := F.ex
  refine ⟨many, fun A outer s H args us vs Q E p hr pin e0 hb r q => ?_⟩
  have hl := many _ _ _ _ _ q
  have KX : K.In s.heap := e0.mod.kin.keeps fun b o e => (e0.bs b o e).1
  have lim : s.heap.NoLimit := e0.mod.nolimit.keeps fun b o e => (e0.bs b o e).1
  have kinds : ∀ y ∈ ps.zip us, (defScope st).names.lookup y.1 = some .local ∨ ((defScope st).names.lookup y.1 = some .cell ∧ ((cellsFrom (s.heap.objs.size + 1) (defScope st).names []).lookup y.1).isSome = true) := fun ⟨n, v⟩ hy => by
    rcases S.par n (List.of_mem_zip hy).1 with z | z
    · exact .inl z
    · exact .inr ⟨z, PySem.W.cellsFrom_some _ _ _ (.inl z)⟩
  refine codeAny_call_function hr.depth (KX _ _ lk) rfl S.co S.gen rfl (PySem.W.codeRec_of KX hcd) (hb _ _ _ _ ?_)
  refine wpAny_newFunctionEnv_cells S.kind kinds fun env he s1 x1 => ?_
  subst he
  refine ⟨lim.keeps x1.toInCall.keep, codeAny_func ?_⟩
  obtain ⟨t, ht, hq⟩ := body cdv A outer s H vs Q E p (hr.deeper _) q
  have I : Inv (cxH CX0 P w K mg base N qual (defScope st) f cdv A outer s H E p) [] (L2.start N vs) H s1 := inv_startH S pin e0 hl r x1
  refine wpAny_mono (ht.nox.run [] s1 (L2.start N vs) H _ I hq) (fun fl s' hs => ?_) fun e s' hs => hs
  match fl, hs with
  | .ret u, ⟨v, _, H', J, rv, z⟩ => exact ⟨v, H', J.os, J.bare, J.base, J.hok, rv, z⟩
  | .next, ⟨_, H', J, z⟩ => exact ⟨V.non, H', J.os, J.bare, J.base, J.hok, rfl, z⟩
  | .brk, ⟨_, _, _, z⟩ => exact z.elim
  | .cont, ⟨_, _, _, z⟩ => exact z.elim
end
section
variable {X : Cx} {CX : CXT} {k : Nat} {f : Addr} {fd : FuncData} {ps : List Str} {sp : Addr × Obj → Sp} {E : XK} {x : Str} {q pos : Pos} {e : Expr} {es : List Expr} {t : TA} {p : Addr × Obj}
theorem pe_callE (F : FnE X.prog X.w X.K X.mg X.base CX k f fd ps sp) (hr : RoomH k X.A) (hp : p ∈ X.pn) (hg : Gl X x) (hm : X.mg x = some (.ref f)) (hk : PySem.W.keepIn X.K (.ref f) = true) (hb : Binds X.K fd ps []) (hx : Passes CX X E)
    (ha : PA X (e :: es) t) (n1 : (x == ("__debug__" : Str)) = false := by decide) (n2 : starEach (e :: es) X.env = (false, eval e X.env) :: starEach es X.env := by rfl)
    (n3 : (backTo pos (starEach es X.env)).any (·.1) = false := by rfl) : PE X (.Call (.Name x q) (e :: es) [] pos) (tCall (sp p) [] E t) := by
  refine ⟨fun pins s σ H Q I q0 => wpAny_Call_Name_kw (ld_glob I hg hm (PySem.W.callWith_K (h₀ := X.base) I.ok.mod.kin hk (thn (ha.run pos pins s σ H _ I q0) fun us s1 ⟨vs, H1, I1, r, q⟩ => ⟨I1.kIn, ?_⟩) n2 n3) n1)⟩
  have q : sp p (vs ++ []) H1 Q E := q
  rw [List.append_nil] at q
  have l2 : (us ++ []).length = ps.length := by
    rw [List.append_nil]
    exact r.length.symm.trans (F.many _ _ _ _ _ q)
  have b := hb s1 us I1.kIn l2
  rw [List.append_nil] at b
  have P1 := I1.pin p (List.mem_append_left _ hp)
  have pin : PinOk X.stack H1 s1 p := ⟨P1.1, P1.2.1, fun hm => (List.mem_cons.mp (I1.stkSub p.1 hm)).elim P1.2.2.1 P1.2.2.2.1, P1.2.2.2.2⟩
  refine wpAny_call (codeAny_mono (F.runs X.A X.stack s1 H1 ⟨us, []⟩ us vs Q E p hr pin I1.env0 b r q) fun res s' z => ?_)
  match res, z with
  | .error err, z => exact hx pins σ H1 s1 err s' I1 z
  | .ok (.ret u), z => exact I1.after z
  | .ok .next, z => exact z.elim
  | .ok .brk, z => exact z.elim
  | .ok .cont, z => exact z.elim
end
/-! ### e.f of the exception in hand, whatever its class -/
def exFields : List Str := ["code", "given", "at", "path", "name", "word", "layer", "start", "goal", "limit", "line", "subject", "most"]
/-- a class of errors whose fields are its instances' own -/
structure OwnX (K : PySem.W.Frag) (C : Addr) : Prop where
  xf : XfC K C
  no : ∀ f ∈ exFields, PySem.W.findIn K (.ref C) f = some none
def ownXB (K : PySem.W.Frag) (C : Addr) : Bool := xfB K C && exFields.all fun f => decide (PySem.W.findIn K (.ref C) f = some none)
theorem ownX_of {K : PySem.W.Frag} {C : Addr} (h : ownXB K C = true) : OwnX K C := by
  obtain ⟨h1, h2⟩ := Bool.and_eq_true_iff.mp h
  exact ⟨xfB_ok h1, fun f hf => of_decide_eq_true (List.all_eq_true.mp h2 f hf)⟩
def tXp (K : PySem.W.Frag) (p : Addr × Obj) (f : Str) (te : TE) : TE := fun σ H Q => te σ H fun x H1 => x = .ref p.1 ∧ ∃ (C dd : Addr) (fs : List (Str × V)) (v : V), p.2.cls = .ref C ∧ OwnX K C ∧ p.2.dict = some dd ∧ (∃ vs, p.2.data = .fields vs) ∧
  H1 dd = some (.xd fs) ∧ fs.lookup f = some v ∧ Q v H1
theorem pe_xp {X : Cx} {p : Addr × Obj} {e : Expr} {te : TE} {pos : Pos} {n : Str} (hp : p ∈ X.pn) (hn : n ∈ exFields) (he : PE X e te) (hb : attributeBase e n X.env (eval e X.env) = eval e X.env := by rfl) : PE X (.Attribute e n pos) (tXp X.K p n te) := by
  refine ⟨fun pins s σ H Q I h => attr_of hb (thn (he.run pins s σ H _ I h) fun u s1 hh => ?_)⟩
  obtain ⟨x, H1, I1, rx, ex, C, dd, fs, v, ec, T, ed, ⟨vs, hd⟩, ea, l, q⟩ := hh
  subst ex
  obtain rfl : u = Value.ref p.1 := rx
  obtain ⟨ha, _⟩ := I1.pin p (List.mem_append_left _ hp)
  obtain ⟨mA, hns, hr⟩ := (show ObjOk X.prog X.w H1 s1.heap dd (.xd fs) from I1.hok dd _ ea)
  obtain ⟨od, ho, hl⟩ := lookIn_ns hns
  obtain ⟨u, hu, ru⟩ := RelO.some_of (v := v) (o := mA n) (by rw [← l]; exact hr n)
  have J : PySem.W.InstAt s1.heap p.1 p.2 C (some od) := ⟨ha, ec, by unfold PySem.W.notCls; rw [hd] <;> rfl, by rw [ed]; exact ho⟩
  exact HandSPX.exc_get I1.kIn J T.xf.ga T.xf.gg T.xf.exC (PySem.W.findObj_own T.xf.hdC (T.no n hn) rfl (by rw [hl, hu])) (handed_of ru) ⟨v, H1, I1.tok _, ru, q⟩
end VG

set_option maxRecDepth 100000
/-! The fields of the exception in hand, by its code. -/
namespace VG
open PySem PySem.Spec PyProof.Rows L2
theorem same_upd {H : Hp} {a : Addr} {o : HO} (h : H a = none) : Same H (upd H a o) := fun b u e => by rw [upd_ne (ne_of_none e h)]; exact e
/-- nm stands in l, as `in` tells it -/
def eqIn (l : List Str) (nm : Str) : Bool := (l.map PyData.str).any fun z => PyData.eqv z (.str nm)
/-- p is an own error with the code nm and the fields fs -/
structure Caught (K : PySem.W.Frag) (H : Hp) (p : Addr × Obj) (nm : Str) (fs : List (Str × V)) : Prop where
  ex : ∃ (C dd : Addr), p.2.cls = .ref C ∧ OwnX K C ∧ p.2.dict = some dd ∧ (∃ vs, p.2.data = .fields vs) ∧ H dd = some (.xd fs)
  code : fs.lookup ("code" : Str) = some (V.str nm)
  sh : SeqAt.shaped (.str nm) = true
theorem Caught.same {K : PySem.W.Frag} {H H' : Hp} {p : Addr × Obj} {nm : Str} {fs : List (Str × V)} (e : Same H H') (c : Caught K H p nm fs) : Caught K H' p nm fs := by
  obtain ⟨⟨C, dd, h1, h2, h3, h4, h5⟩, h6, h7⟩ := c
  exact ⟨⟨C, dd, h1, h2, h3, h4, e _ _ h5⟩, h6, h7⟩
theorem Caught.get {K : PySem.W.Frag} {H : Hp} {p : Addr × Obj} {nm f : Str} {fs : List (Str × V)} {v : V} {Q : VK} (c : Caught K H p nm fs) (l : fs.lookup f = some v) (q : Q v H) :
    ∃ (C dd : Addr) (fs : List (Str × V)) (v : V), p.2.cls = .ref C ∧ OwnX K C ∧ p.2.dict = some dd ∧ (∃ vs, p.2.data = .fields vs) ∧ H dd = some (.xd fs) ∧ fs.lookup f = some v ∧ Q v H := by
  obtain ⟨⟨C, dd, h1, h2, h3, h4, h5⟩, _, _⟩ := c
  exact ⟨C, dd, fs, v, h1, h2, h3, h4, h5, l, q⟩
theorem strs_all {K : PySem.W.Frag} {H : Hp} : ∀ l : List Str, DpAll K H (l.map V.str) (l.map PyData.str)
  | [] => .nil
  | x :: l => .cons (.str x) (strs_all l)
section
variable {X : Cx} {p : Addr × Obj} {x f : Str} {i j1 j2 j3 : Nat} {l : List Str} {es fes : List Expr} {p1 p2 p3 p4 p5 p6 p7 p8 p9 : Pos}
/-- the fields ns of the exception in hand, in slot i -/
def tFlds (K : PySem.W.Frag) (p : Addr × Obj) (i : Nat) (ns : List Str) : TA := fun σ H Q => σ[i]? = some (some (.ref p.1)) ∧ ∃ (nm : Str) (fs : List (Str × V)) (ys : List V), Caught K H p nm fs ∧ ns.map (fun f => fs.lookup f) = ys.map some ∧ Q ys H
theorem pa_flds0 : PA X [] (tFlds X.K p i []) := by
  refine ⟨fun pos pins s σ H Q I h => ?_⟩
  obtain ⟨_, nm, fs, ys, _, e, q⟩ := h
  have e2 : ys = [] := by
    cases ys with
    | nil => rfl
    | cons y ys => cases e
  subst e2
  exact pa_nil.run pos pins s σ H Q I q
theorem pa_flds {ns : List Str} (hp : p ∈ X.pn) (hv : PE X (.Name x p1) (tVar i)) (hf : f ∈ exFields) (ha : PA X es (tFlds X.K p i ns)) : PA X (.Attribute (.Name x p1) f p2 :: es) (tFlds X.K p i (f :: ns)) := by
  refine ⟨fun pos pins s σ H Q I h => ?_⟩
  obtain ⟨hs, nm, fs, ys, c, e, q⟩ := h
  match ys, e with
  | y :: ys, e =>
    have e1 := List.cons.inj e
    obtain ⟨C, dd, h1, h2, h3, h4, h5⟩ := c.ex
    refine (pa_cons (pe_xp hp hf hv) ha).run pos pins s σ H Q I ?_
    refine ⟨_, hs, rfl, C, dd, fs, _, h1, h2, h3, h4, h5, e1.1, ?_⟩
    exact ⟨hs, nm, fs, ys, c, e1.2, q⟩
theorem small_line {n : Nat} (h : n ≤ 1000) : n ≤ sizeLine := Nat.le_trans h (by decide)
/-- if a test of the code: return the fields ns -/
def tIfRet (K : PySem.W.Frag) (p : Addr × Obj) (i : Nat) (c : Str → Bool) (ns : List Str) : TS := fun D σ H => σ[i]? = some (some (.ref p.1)) ∧ ∃ (nm : Str) (fs : List (Str × V)), Caught K H p nm fs ∧
  (c nm = true → ∃ ys, ns.map (fun f => fs.lookup f) = ys.map some ∧ ∀ T H', Same H H' → SqT K H' T ys → D.rt (.ref T) H') ∧ (c nm = false → ∀ H', Same H H' → D.nx σ H')
theorem flds_end {K : PySem.W.Frag} {σ : L2.St} {H H1 : Hp} {ns : List Str} {nm : Str} {fs : List (Str × V)} {R : VK} (hl : ns.length ≤ 1000) (hs : σ[i]? = some (some (.ref p.1))) (sm : Same H H1) (c : Caught K H p nm fs)
    (h : ∃ ys, ns.map (fun f => fs.lookup f) = ys.map some ∧ ∀ T H', Same H H' → SqT K H' T ys → R (.ref T) H') : tTup (tFlds K p i ns) σ H1 R := by
  obtain ⟨ys, e, k⟩ := h
  have hz : ys.length = ns.length := by
    have z := congrArg List.length e
    rw [List.length_map, List.length_map] at z
    exact z.symm
  exact ⟨hs, nm, fs, ys, c.same sm, e, small_line (by omega), fun T hT => k T _ (sm.trans (same_upd hT)) (SqT.of upd_same)⟩
theorem ps_inRet {ns : List Str} (hp : p ∈ X.pn) (hu : X.A.units + 65 < cLine) (hl : l.length ≤ 1000) (hn : ns.length ≤ 1000) (sh : SeqAt.shaped (.tuple (l.map PyData.str)) = true) (hv : PE X (.Name x p1) (tVar i))
    (ha : PA X es (fun _ H Q => Q (l.map V.str) H)) (he : PA X fes (tFlds X.K p i ns)) :
    PS X (.If (.Compare (.Attribute (.Name x p1) "code" p3) [.In] [.Tuple es j1 p4] p5) [.Return (some (.Tuple fes j2 p7)) p8] [] p9) (tIfRet X.K p i (eqIn l) ns) := by
  refine ⟨fun pins s σ H D I h => (ps_if (pt_cmpR (op_inT hu) (pe_xp hp (by decide) hv) (pe_tup ha) rfl) (pss_one (ps_ret (pe_tup he))) pss_nil).run pins s σ H D I ?_⟩
  obtain ⟨hs, nm, fs, c, hy, hn⟩ := h
  have hz : (l.map V.str).length ≤ sizeLine := by rw [List.length_map]; exact small_line hl
  refine ⟨_, hs, rfl, c.get c.code ⟨hz, fun T hT => ?_⟩⟩
  have sm := same_upd (o := .tup (l.map V.str)) hT
  refine ⟨.str nm, l.map PyData.str, .str nm, .tup (SqT.of upd_same) (strs_all l), c.sh, sh, eqIn l nm, rfl, ?_⟩
  cases e : eqIn l nm with
  | true => exact iteT (flds_end (by assumption) hs sm c (hy e))
  | false => exact iteF (hn e _ sm)
theorem ps_eqRet {ns : List Str} {z : Str} (hp : p ∈ X.pn) (hn : ns.length ≤ 1000) (hv : PE X (.Name x p1) (tVar i)) (he : PA X fes (tFlds X.K p i ns)) :
    PS X (.If (.Compare (.Attribute (.Name x p1) "code" p3) [.Eq] [.Constant (.str z) j1 p4] p5) [.Return (some (.Tuple fes j2 p7)) p8] [] p9) (tIfRet X.K p i (fun nm => decide (nm = z)) ns) := by
  refine ⟨fun pins s σ H D I h => (ps_if (pt_cmpR op_eq (pe_xp hp (by decide) hv) pe_str rfl) (pss_one (ps_ret (pe_tup he))) pss_nil).run pins s σ H D I ?_⟩
  obtain ⟨hs, nm, fs, c, hy, hn⟩ := h
  obtain ⟨C, dd, h1, h2, h3, h4, h5⟩ := c.ex
  refine ⟨_, hs, rfl, C, dd, fs, _, h1, h2, h3, h4, h5, c.code, ?_⟩
  refine ⟨rfl, decide (nm = z), congrArg V.bl ?_, ?_⟩
  · by_cases y : nm = z
    · subst y
      rw [decide_eq_true rfl, decide_eq_true rfl]
    · rw [decide_eq_false y, decide_eq_false fun q => y (V.str.inj q)]
  cases e : decide (nm = z) with
  | true => exact iteT (flds_end (by assumption) hs (Same.refl H) c (hy e))
  | false => exact iteF (hn e _ (Same.refl H))
/-- return the fields ns if the code is z else () -/
def tEndRet (K : PySem.W.Frag) (p : Addr × Obj) (i : Nat) (z : Str) (ns : List Str) : TS := fun D σ H => σ[i]? = some (some (.ref p.1)) ∧ ∃ (nm : Str) (fs : List (Str × V)), Caught K H p nm fs ∧
  ∃ ys, (if decide (nm = z) = true then ns else []).map (fun f => fs.lookup f) = ys.map some ∧ ∀ T H', Same H H' → SqT K H' T ys → D.rt (.ref T) H'
theorem ps_endRet {ns : List Str} {z : Str} (hp : p ∈ X.pn) (hn : ns.length ≤ 1000) (hv : PE X (.Name x p1) (tVar i)) (he : PA X fes (tFlds X.K p i ns)) :
    PS X (.Return (some (.IfExp (.Compare (.Attribute (.Name x p1) "code" p3) [.Eq] [.Constant (.str z) j1 p4] p5) (.Tuple fes j2 p7) (.Tuple [] j3 p2) p6)) p8) (tEndRet X.K p i z ns) := by
  refine ⟨fun pins s σ H D I h => (ps_ret (pe_ifExp (pt_cmpR op_eq (pe_xp hp (by decide) hv) pe_str rfl) (pe_tup he) (pe_tup (pa_flds0 (p := p) (i := i))))).run pins s σ H D I ?_⟩
  obtain ⟨hs, nm, fs, c, h⟩ := h
  obtain ⟨C, dd, h1, h2, h3, h4, h5⟩ := c.ex
  refine ⟨_, hs, rfl, C, dd, fs, _, h1, h2, h3, h4, h5, c.code, ?_⟩
  refine ⟨rfl, decide (nm = z), congrArg V.bl ?_, ?_⟩
  · by_cases y : nm = z
    · subst y
      rw [decide_eq_true rfl, decide_eq_true rfl]
    · rw [decide_eq_false y, decide_eq_false fun q => y (V.str.inj q)]
  cases e : decide (nm = z) with
  | true =>
    rw [e, if_pos rfl] at h
    exact iteT (flds_end (by assumption) hs (Same.refl H) c h)
  | false =>
    rw [e, if_neg Bool.false_ne_true] at h
    exact iteF (flds_end (by decide) hs (Same.refl H) c h)
end
end VG

set_option maxRecDepth 100000
/-! ask(lambda: ..): ('', what it gives), or (code,) + the fields of the error that it raises. -/
namespace VG
open PySem PySem.Spec PyProof.Rows L2 LamX
open L2H (RoomH roomH_of)
/-- the fields of an error with the code nm, as the law tells them -/
def fieldsOf (nm : Str) : List Str :=
  if eqIn ["InvalidRatio", "InvalidNumber", "InvalidName", "InvalidLayer", "InvalidPlace", "InvalidPoint", "InvalidForm", "InvalidLimit"] nm = true then ["given"]
  else if eqIn ["InvalidRow", "InvalidFact", "InvalidCommand"] nm = true then ["at"]
  else if eqIn ["InvalidStep", "UnlikeEnds"] nm = true then ["path"]
  else if eqIn ["DuplicateName", "UnknownName"] nm = true then ["name"]
  else if eqIn ["InvalidText", "UnknownScript"] nm = true then ["word"]
  else if decide (nm = "InvalidTable") = true then ["layer"]
  else if decide (nm = "InvalidWay") = true then ["layer", "start", "goal"]
  else if decide (nm = "Full") = true then ["limit"]
  else if decide (nm = "InvalidPage") = true then ["line"]
  else if decide (nm = "TooMany") = true then ["subject", "most"] else []
/-- the fields of the error p: of its code's names, in a tuple -/
def spFields (K : PySem.W.Frag) : Addr × Obj → Sp := fun p vs H Q _ => vs = [.ref p.1] ∧ ∃ (nm : Str) (fs : List (Str × V)) (ys : List V), Caught K H p nm fs ∧ (fieldsOf nm).map (fun f => fs.lookup f) = ys.map some ∧ ∀ T H', Same H H' → SqT K H' T ys → Q (.ref T) H'
/-- an own error of class cls, its dict d -/
structure Err (K : PySem.W.Frag) (H : Hp) (cls : Value) (d : Option Addr) (nm : Str) (fs : List (Str × V)) : Prop where
  ex : ∃ (C dd : Addr), cls = .ref C ∧ OwnX K C ∧ d = some dd ∧ H dd = some (.xd fs)
  code : fs.lookup ("code" : Str) = some (V.str nm)
  sh : SeqAt.shaped (.str nm) = true
theorem Err.caught {K : PySem.W.Frag} {H : Hp} {cls : Value} {d : Option Addr} {nm : Str} {fs : List (Str × V)} {a : Addr} {oe : Obj} (e : Err K H cls d nm fs) (hz : Zc cls d oe) (hf : ∃ vs, oe.data = .fields vs) : Caught K H (a, oe) nm fs := by
  obtain ⟨⟨C, dd, h1, h2, h3, h4⟩, h5, h6⟩ := e
  exact ⟨⟨C, dd, hz.1.trans h1, h2, hz.2.trans h3, hf, h4⟩, h5, h6⟩
/-- what ask wishes of an error of the body, cs the classes that it catches -/
def askX (K : PySem.W.Frag) (cs : List Value) (Q : VK) : XK := fun cls d H => PySem.W.exmAny K cls cs = some true ∧ ∃ (nm : Str) (fs : List (Str × V)) (ys : List V), Err K H cls d nm fs ∧ (fieldsOf nm).map (fun f => fs.lookup f) = ys.map some ∧ ys.length ≤ 1000 ∧
  ∀ T H', Same H H' → SqT K H' T (.str nm :: ys) → Q (.ref T) H'
def askQ (Q : VK) : VK := fun x H1 => [V.str "", x].length ≤ sizeLine ∧ ∀ T, H1 T = none → Q (.ref T) (upd H1 T (.tup [.str "", x]))
def TAsk (K : PySem.W.Frag) (cs : List Value) : (XK → Hp → VK → Prop) → Hp → VK → Prop := fun tl H Q => tl (askX K cs Q) H (askQ Q)
section
variable {X : Cx}
/-- the suite: return (e.code,) + fields(e) -/
def tSuite (K : PySem.W.Frag) (i : Nat) : Addr → Value → Option Addr → TS := fun a cls d D σ H => σ[i]? = some (some (.ref a)) ∧ ∃ (nm : Str) (fs : List (Str × V)) (ys : List V), Err K H cls d nm fs ∧ (fieldsOf nm).map (fun f => fs.lookup f) = ys.map some ∧ ys.length ≤ 1000 ∧
  ∀ T H', Same H H' → SqT K H' T (.str nm :: ys) → D.rt (.ref T) H'
theorem ps_suite {a : Addr} {oe : Obj} {cls : Value} {d : Option Addr} {pn : List (Addr × Obj)} {i k : Nat} {e x : Str} {f : Addr} {fd : FuncData} {ps : List Str} {p1 p2 p3 p4 p5 p6 p7 p8 : Pos} {j : Nat}
    (F : FnE X.prog X.w X.K X.mg X.base CX0 k f fd ps (spFields X.K)) (hr : RoomH k X.A) (hg : (X.suite a ((a, oe) :: pn)).env.scope.names.lookup x = some .globalImplicit) (hm : X.mg x = some (.ref f)) (hk : PySem.W.keepIn X.K (.ref f) = true) (hb : L2.Binds X.K fd ps [])
    (hz : Zc cls d oe) (hf : ∃ vs, oe.data = .fields vs) (hv : ∀ p, PE (X.suite a ((a, oe) :: pn)) (.Name e p) (tVar i)) (n1 : (x == ("__debug__" : Str)) = false) :
    PS (X.suite a ((a, oe) :: pn)) (.Return (some (.BinOp (.Tuple [.Attribute (.Name e p1) "code" p2] j p3) .Add (.Call (.Name x p4) [.Name e p5] [] p6) p7)) p8) (tSuite X.K i a cls d) := by
  have hp : (a, oe) ∈ (X.suite a ((a, oe) :: pn)).pn := List.mem_cons_self
  refine ⟨fun pins s σ H D I h => (ps_ret (pe_op op_catT (pe_tup (pa_cons (pe_xp hp (by decide) (hv p1)) pa_nil)) (pe_callE (E := fun _ _ _ => False) (X := X.suite a ((a, oe) :: pn)) F ⟨hr.dp, hr.un⟩ hp hg hm hk hb (fun _ _ _ _ _ _ _ h => h.elim) (pa_cons (hv p5) pa_nil) n1))).run pins s σ H D I ?_⟩
  obtain ⟨hs, nm, fs, ys, er, el, hy, q⟩ := h
  have c := er.caught (a := a) hz hf
  obtain ⟨C, dd, h1, h2, h3, h4, h5⟩ := c.ex
  refine ⟨_, hs, rfl, C, dd, fs, _, h1, h2, h3, h4, h5, c.code, small_line (by show 1 ≤ 1000; decide), fun T hT => ?_⟩
  have sm := same_upd (o := .tup [.str nm]) hT
  refine ⟨_, hs, rfl, nm, fs, ys, c.same sm, el, fun T2 H2 sm2 ht => ?_⟩
  have st : SqT X.K H2 T [.str nm] := Same.tup sm2 (SqT.of upd_same)
  refine ⟨T, T2, [.str nm], ys, rfl, rfl, st, ht, List.cons_ne_nil _ _, Nat.le_trans (Nat.add_le_add_left hy 1) (by decide), fun e => ?_, fun _ T3 hT3 => ?_⟩
  · subst e
    exact q T H2 (sm.trans sm2) st
  · exact q T3 _ ((sm.trans sm2).trans (same_upd hT3)) (SqT.of upd_same)
theorem exm_imp {K : PySem.W.Frag} {cls : Value} {cs : List Value} {Q : VK} {d : Option Addr} {H : Hp} (h : askX K cs Q cls d H) : PySem.W.exmAny K cls cs = some true := h.1
theorem ask_gives {Ng : List Str} {x a e y q xA xB xC : Str} {sg : Scope} {g f : Addr} {fd : FuncData} {ps : List Str} {cA cB cC cdg : Value} {j1 j2 j3 j4 k : Nat} {p1 p2 p3 p4 p5 p6 p7 p8 p9 p10 p11 p12 p13 p14 p15 p16 p17 p18 p19 : Pos}
    (F : FnE X.prog X.w X.K X.mg X.base CX0 k f fd ps (spFields X.K)) (hr : Room (k + 1) X.A) (nd : Ng.Nodup) (h1 : Ng[1]? = some e) (hl : sg.names.lookup e = some .local)
    (gA : sg.names.lookup xA = some .globalImplicit) (gB : sg.names.lookup xB = some .globalImplicit) (gC : sg.names.lookup xC = some .globalImplicit) (gy : sg.names.lookup y = some .globalImplicit)
    (mA : X.mg xA = some cA) (mB : X.mg xB = some cB) (mC : X.mg xC = some cC) (my : X.mg y = some (.ref f)) (hk : PySem.W.keepIn X.K (.ref f) = true) (hb : L2.Binds X.K fd ps [])
    (dA : (xA == ("__debug__" : Str)) = false) (dB : (xB == ("__debug__" : Str)) = false) (dC : (xC == ("__debug__" : Str)) = false) (dy : (y == ("__debug__" : Str)) = false) (de : (e == ("__debug__" : Str)) = false) (dc : (e == ("__classdict__" : Str)) = false)
    (h0 : ∀ f : Addr, (L2.start Ng [V.ref f])[0]? = some (some (V.ref f))) (h2 : 1 < Ng.length) :
    GivesTo X Ng x sg g cdg [.Try [.Return (some (.Tuple [.Constant (.str "") j1 p1, .Call (.Name a p2) [] [] p3] j2 p4)) p5]
      [.ExceptHandler (some (.Tuple [.Name xA p6, .Name xB p7, .Name xC p8] j3 p9)) (some e) [.Return (some (.BinOp (.Tuple [.Attribute (.Name e p10) "code" p11] j4 p12) .Add (.Call (.Name y p13) [.Name e p14] [] p15) p16)) p17] p18] [] [] p19] a q (TAsk X.K [cA, cB, cC]) := by
  intro f' c' s H Q tl act hc h
  have room : RoomH k (cxOf C8.CX0 X.prog X.w X.K X.mg X.base Ng x sg g cdg X.A X.stack s H C8.E0).nox.A := roomH_of (hr.deeper _)
  refine ⟨_, pss_one (ps_try_as3 (X := (cxOf C8.CX0 X.prog X.w X.K X.mg X.base Ng x sg g cdg X.A X.stack s H C8.E0).nox) (c1 := cA) (c2 := cB) (c3 := cC) (i := 1)
      (tb := fun W D σ H => ∃ Ech : XK, (∀ cls d σ' H', Ech cls d H' → W cls d σ' H') ∧ σ[0]? = some (some (.ref f')) ∧ H c' = some (CodeO c' q) ∧ tl Ech H (askQ D.rt))
      (ts := tSuite X.K 1) rfl rfl nd h1 hl ⟨gA, dA, .inl mA⟩ ⟨gB, dB, .inl mB⟩ ⟨gC, dC, .inl mC⟩ (fun W pn xe tk _ => ?_) (fun b oe cls d pn hz hf => ?_)), ?_⟩
  · refine ⟨fun pins s' σ H' D I h' => ?_⟩
    obtain ⟨Ech, hW, e1, e2, e3⟩ := h'
    have hp := act W pn xe Ech p2 p3 tk hW
    have hq := pss_one (st := .Return (some (.Tuple [.Constant (.str "") j1 p1, .Call (.Name a p2) [] [] p3] j2 p4)) p5) (ps_ret (pe_tup (pa_cons pe_str (pa_cons hp pa_nil))))
    exact hq.run pins s' σ H' D I ⟨e1, e2, e3⟩
  · refine pss_one (ps_suite F room ?_ my hk hb hz hf (fun p => pe_var h1 (.inl hl) de dc) dy)
    exact gy
  · refine ⟨askX X.K [cA, cB, cC] Q, fun cls d σ' H' z => ?_, h0 f', hc, h⟩
    obtain ⟨z1, nm, fs, ys, z2, z3, z4, z5⟩ := z
    refine ⟨z1, fun b hb hn => ⟨?_, nm, fs, ys, z2, z3, z4, z5⟩⟩
    have hn : σ'.length = Ng.length := hn
    rw [List.getElem?_set_self (by omega)]
end
end VG

set_option maxRecDepth 100000
/-! A lambda with one parameter that bears a default, handed to a def that calls it without arguments. -/
namespace VG
open PySem PySem.Spec PyProof.Rows L2 LamX
/-! ### its function object -/
abbrev dlFn (qual : Str) (params : Arguments) (body : Expr) (scope : Scope) (cl : List (Str × Addr)) (pm cdv ctv dv : Value) : FuncData := { PySem.W.kla_fn "<lambda>" qual params body scope cl pm cdv ctv with defaults := dv }
abbrev dlObj (qual : Str) (params : Arguments) (body : Expr) (scope : Scope) (cl : List (Str × Addr)) (pm cdv ctv dv : Value) : Obj := { cls := .type "function", data := .func (dlFn qual params body scope cl pm cdv ctv dv) }
abbrev oneTup (u : Value) : Obj := { cls := .type "tuple", data := .seq [u].toArray }
section
variable {M : Model} {A : Around} {E : Value → Shared → Prop} {s : Shared} {Q : Value → Shared → Prop}
/-- the closure's tuple, if there is one -/
theorem clo_tup {clos : List (Str × Addr)} {k : Value → Sem Value} (h : ∀ (ctv : Value) (h1 : Heap), (∀ b o, s.heap.get? b = some o → h1.get? b = some o) → s.heap.objs.size ≤ h1.objs.size → wpAny M A (k ctv) Q E { s with heap := h1 }) :
    wpAny M A (do
      let t ← if clos.isEmpty then pure .none else newTextTuple ((clos.mergeSort fun a b => a.1.cps.toList ≤ b.1.cps.toList).map (.ref ·.2))
      k t) Q E s := by
  match clos with
  | [] => exact wpAny_bind (wpAny_pure (h .none s.heap (fun _ _ e => e) (Nat.le_refl _)))
  | q :: r =>
    refine wpAny_bind (wpAny_newTextTuple (h _ _ (fun b o e => Heap.get?_push_of_some _ e) ?_))
    rw [Heap.size_push]
    omega
variable {qual : Str} {params : Arguments} {body : Expr} {scope : Scope} {env : Env} {c P : Addr} {ps : Array Value} {pos : Pos} {line : Nat} {mg : Str → Option Value} {clos : List (Str × Addr)} {dv : Value}
/-- it is made: its code object stands in the table -/
theorem dl_hit {cv : Value} (hcl : closureFor scope env = pure clos) (eg : env.globals = mainGlobals) (gm : s.heap.Ns mainGlobals mg) (ec : env.code = .ref c) (C : PySem.W.CodeHd s.heap c P) (tab : s.heap.get? P = some { cls := .none, data := .fields ps }) (ok : TriplesOk ps.toList)
    (hit : codeAmong pos ps.toList = some cv) (bl : s.heap.BuiltinsAt mg P)
    (h : ∀ (ctv : Value) (h1 : Heap) (tk : Tok), (∀ b o, s.heap.get? b = some o → h1.get? b = some o) → s.heap.objs.size ≤ h1.objs.size →
      Q (.ref h1.objs.size) { s with heap := h1.push (dlObj qual params body scope clos ((mg "__name__").getD .none) cv ctv dv), toks := tk }) :
    wpAny M A (makeTail "<lambda>" qual params (.expr body) scope env dv .none none pos line) Q E s := by
  obtain ⟨bm, ob, y1, y2, _, _, y5, y6, y7, y8⟩ := bl
  unfold makeTail
  rw [hcl, eg]
  refine wpAny_bind (wpAny_pure (clo_tup fun ctv h1 kp sz => ?_))
  refine wpAny_bind (wpAny_functionCode_hit ec ((C.keeps kp).code (kp _ _ tab) ok) hit ?_)
  refine wpAny_bind (wpAny_builtinsFor (gm.keeps kp) y1 y2 (kp _ _ y5) y6 y7 y8 ?_)
  exact wpAny_bind (wpAny_nsGet (gm.keeps kp) (wpAny_bind (wpAny_pure (wpAny_newObj_type (h ctv h1 s.toks kp sz) (by size_fits)))))
/-- it is made: its code object is new -/
theorem dl_new (hcl : closureFor scope env = pure clos) (eg : env.globals = mainGlobals) (gm : s.heap.Ns mainGlobals mg) (ec : env.code = .ref c) (C : PySem.W.CodeHd s.heap c P) (tab : s.heap.get? P = some { cls := .none, data := .fields ps }) (ok : TriplesOk ps.toList)
    (miss : codeAmong pos ps.toList = none) (gP : mainGlobals ≠ P) (bl : s.heap.BuiltinsAt mg P)
    (h : ∀ (c' : Addr) (ctv : Value) (h1 : Heap) (tk : Tok), Heap.ExtBut P s.heap h1 → s.heap.objs.size ≤ c' → c' < h1.objs.size → h1.CodeRec (.ref c') qual → h1.get? P = some { cls := .none, data := .fields (ps ++ #[rawInt pos.line, rawInt pos.col, .ref c']) } →
      Q (.ref h1.objs.size) { s with heap := h1.push (dlObj qual params body scope clos ((mg "__name__").getD .none) (.ref c') ctv dv), toks := tk }) :
    wpAny M A (makeTail "<lambda>" qual params (.expr body) scope env dv .none none pos line) Q E s := by
  obtain ⟨bm, ob, y1, y2, _, y4, y5, y6, y7, y8⟩ := bl
  unfold makeTail
  rw [hcl, eg]
  refine wpAny_bind (wpAny_pure (clo_tup fun ctv h1 kp sz => ?_))
  refine wpAny_bind (wpAny_functionCodeX ec ((C.keeps kp).code (kp _ _ tab) ok) ((C.keeps kp).tab (kp _ _ tab)) miss fun c' h2 tk ext ge lt _ rec there _ => ?_)
  have gm2 := (gm.keeps kp).extBut ext gP
  refine wpAny_bind (wpAny_builtinsFor gm2 y1 y2 (ext _ _ y4 (kp _ _ y5)) y6 y7 y8 ?_)
  refine wpAny_bind (wpAny_nsGet gm2 (wpAny_bind (wpAny_pure (wpAny_newObj_type (h c' ctv h2 tk (fun b o n e => ext b o n (kp b o e)) (Nat.le_trans sz ge) lt rec there.2) (by size_fits)))))
end
/-! ### made, in the layer -/
section
variable {X : Cx} {pins : List (Addr × Obj)} {σ : L2.St} {H : Hp} {s : Shared}
/-- an object that nothing tracks and no frame is -/
structure Loose (X : Cx) (H : Hp) (s : Shared) (a : Addr) (o : Obj) : Prop where
  get : s.heap.get? a = some o
  free : H a = none
  nofr : a ∉ frs X.stack
theorem new_nofr (I : Inv X pins σ H s) {a : Addr} (h : s.heap.objs.size ≤ a) : a ∉ frs X.stack := fun z => by
  rcases List.mem_cons.mp (I.stkSub _ z) with e | e
  · have h1 := I.lt
    rw [← e] at h1
    exact Nat.lt_irrefl _ (Nat.lt_of_lt_of_le h1 h)
  · exact I.nofs h e
/-- ps's tables and all else, a new code object in one of them -/
theorem tabs_new {T : List (Addr × Str)} {P c' : Addr} {q : Str} {ps : Array Value} {p0 : Pos} (hT : Tabs T H) (hP : H P = some (.tbl ps)) (ok : TriplesOk ps.toList) (at' : ∀ (pos : Pos) (cv : Value), codeAmong pos ps.toList = some cv → ∃ c, cv = .ref c ∧ H c = some (CodeO c q))
    (nC : H c' = none) (hu : ∀ p ∈ T, p.1 = P → p.2 = q) :
    ExtN H (upd (upd H P (.tbl (ps ++ #[rawInt p0.line, rawInt p0.col, .ref c']))) c' (CodeO c' q)) ∧ Tabs T (upd (upd H P (.tbl (ps ++ #[rawInt p0.line, rawInt p0.col, .ref c']))) c' (CodeO c' q)) := by
  have e1 : ExtN H (upd (upd H P (.tbl (ps ++ #[rawInt p0.line, rawInt p0.col, .ref c']))) c' (CodeO c' q)) := fun b o e n => by
    have nP : b ≠ P := fun z => by
      rw [z, hP] at e
      exact n ps (Option.some.inj e).symm
    rw [upd_ne (ne_of_none e nC), upd_ne nP]
    exact e
  have el : (ps ++ #[rawInt p0.line, rawInt p0.col, .ref c']).toList = ps.toList ++ [rawInt p0.line, rawInt p0.col, .ref c'] := by simp
  refine ⟨e1, fun p hp => ?_⟩
  by_cases hb : p.1 = P
  · rw [hu p hp hb, hb]
    refine ⟨_, by rw [upd_ne (ne_of_none hP nC), upd_same], by rw [el]; exact PySem.TriplesOk_snoc _ _ _ _ ok, fun p' cv hcv => ?_⟩
    rw [el] at hcv
    rcases among_app _ ok hcv with z | z
    · obtain ⟨c0, z1, z2⟩ := at' p' cv z
      exact ⟨c0, z1, e1 _ _ z2 codeO_ne⟩
    · exact ⟨c', z, upd_same⟩
  · obtain ⟨qs, a1, a2, a3⟩ := hT p hp
    refine ⟨qs, by rw [upd_ne (ne_of_none a1 nC), upd_ne hb]; exact a1, a2, fun p' cv hcv => ?_⟩
    obtain ⟨c0, z1, z2⟩ := a3 p' cv hcv
    exact ⟨c0, z1, e1 _ _ z2 codeO_ne⟩
/-- lambda a=z: body, evaluated -/
theorem dl_make {T : List (Addr × Str)} {c P : Addr} {params : Arguments} {body : Expr} {scope : Scope} {pos p0 : Pos} {z : Int} {j : Nat} {E : Value → Shared → Prop} {Q : Value → Shared → Prop} (I : Inv X pins σ H s) (TB : TabB X.base X.mg c P) (hcode : X.env.code = .ref c)
    (hm : (P, X.env.qual ++ "<lambda>") ∈ T) (hu : ∀ p ∈ T, p.1 = P → p.2 = X.env.qual ++ "<lambda>") (hT : Tabs T H) (hdef : defaultsOf params X.env = ([eval (.Constant (.int z) j p0) X.env], [])) (hkw : params.kwonlyargs = [])
    (hfree : ∀ y ∈ scope.names, y.2 = .free → ∃ c, X.env.cells.lookup y.1 = some c) (hE : ∀ e s', X.xe e s' → E e s')
    (h : ∀ (f D c' : Addr) (pm ctv u : Value) (H1 : Hp) (s' : Shared), Inv X pins σ H1 s' → ExtN H H1 → Tabs T H1 → RelV (.int z) u → Loose X H1 s' D (oneTup u) →
      Loose X H1 s' f (dlObj (X.env.qual ++ "<lambda>") params body scope (cloFrom X.env.cells scope.names []) pm (.ref c') ctv (.ref D)) → H1 c' = some (CodeO c' (X.env.qual ++ "<lambda>")) → Q (.ref f) s') :
    wpAny (model X.prog X.w) X.A (eval (.Lambda params body scope pos) X.env) Q E s := by
  rw [arm_eval_Lambda, hdef]
  show wpAny (model X.prog X.w) X.A (do let dv ← evalAll [eval (.Constant (.int z) j p0) X.env]; let kdv ← holding dv (evalAllOpt []); makeFunction "<lambda>" (X.env.qual ++ "<lambda>") params (.expr body) scope X.env dv kdv [] pos pos.line) Q E s
  refine wpAny_bind ?_
  show wpAny (model X.prog X.w) X.A (do let v ← eval (.Constant (.int z) j p0) X.env; return v :: (← holding [v] (evalAll []))) _ E s
  refine wpAny_bind (wpAny_mono ((pe_int (X := X)).run pins s σ H (fun v H1 => v = .int z ∧ H1 = H) I ⟨rfl, rfl⟩) (fun u s1 hh => ?_) hE)
  obtain ⟨v, H1, I1, rv, ev, eH⟩ := hh
  subst ev
  rw [eH] at I1
  refine wpAny_bind (wpAny_holding (wpAny_pure (wpAny_pure ?_)))
  refine wpAny_bind (wpAny_holding (wpAny_pure ?_))
  rw [makeFunction_eq, hkw]
  simp only [List.zip_nil_left, List.filterMap_nil, List.isEmpty_nil, List.isEmpty_cons, if_true, Bool.false_eq_true, if_false, pure_bind]
  refine wpAny_bind (wpAny_newTextTuple ?_)
  have D0 : s1.heap.objs.size ≤ s1.heap.objs.size := Nat.le_refl _
  have I2 : Inv X pins σ H { s1 with heap := s1.heap.push (oneTup u), toks := s1.toks } := I1.kept fun b o e => Heap.get?_push_of_some _ e
  obtain ⟨ps, hP, ok, at'⟩ := hT _ hm
  have gP : (s1.heap.push (oneTup u)).get? P = some { cls := .none, data := .fields ps } := I2.hok P _ hP
  have bl : (s1.heap.push (oneTup u)).BuiltinsAt X.mg P := TB.bm.keeps I2.bk
  have dGet : (s1.heap.push (oneTup u)).get? s1.heap.objs.size = some (oneTup u) := Heap.get?_push_size _ rfl
  have dFree : H s1.heap.objs.size = none := I1.hok.fresh (Nat.le_refl _)
  have dNofr : s1.heap.objs.size ∉ frs X.stack := new_nofr I1 (Nat.le_refl _)
  have nDP : s1.heap.objs.size ≠ P := fun z => by
    rw [z, hP] at dFree
    cases dFree
  have sz1 : (s1.heap.push (oneTup u)).objs.size = s1.heap.objs.size + 1 := Heap.size_push _ _
  cases e : codeAmong pos ps.toList with
  | some cv =>
    obtain ⟨c', rfl, hco⟩ := at' pos cv e
    refine dl_hit (mg := X.mg) (c := c) (P := P) (ps := ps) (closure_ok hfree) I2.ok.glob (I2.mod.glob.keeps I2.bk) hcode (TB.code.keeps I2.bk) gP ok e bl fun ctv h1 tk kp sz => ?_
    have sz : (s1.heap.push (oneTup u)).objs.size ≤ h1.objs.size := sz
    have kp : ∀ b o, (s1.heap.push (oneTup u)).get? b = some o → h1.get? b = some o := kp
    have I3 : Inv X pins σ H { s1 with heap := h1.push (dlObj (X.env.qual ++ "<lambda>") params body scope (cloFrom X.env.cells scope.names []) ((X.mg "__name__").getD .none) (.ref c') ctv (.ref s1.heap.objs.size)), toks := tk } := I2.kept fun b o q => Heap.get?_push_of_some _ (kp b o q)
    exact h h1.objs.size s1.heap.objs.size c' _ ctv u H _ I3 (ExtN.refl H) hT rv ⟨Heap.get?_push_of_some _ (kp _ _ dGet), dFree, dNofr⟩ ⟨Heap.get?_push_size _ rfl, I1.hok.fresh (by omega), new_nofr I1 (by omega)⟩ hco
  | none =>
    refine dl_new (mg := X.mg) (c := c) (P := P) (ps := ps) (closure_ok hfree) I2.ok.glob (I2.mod.glob.keeps I2.bk) hcode (TB.code.keeps I2.bk) gP ok e TB.gP bl fun c' ctv h1 tk ext ge lt rec tab => ?_
    obtain ⟨c2, oc, vs, t, e2, hoc, hd, hv⟩ := rec
    cases e2
    have ge : (s1.heap.push (oneTup u)).objs.size ≤ c' := ge
    have ext : ∀ b o, b ≠ P → (s1.heap.push (oneTup u)).get? b = some o → h1.get? b = some o := ext
    have nC : H c' = none := I1.hok.fresh (by omega)
    have I3 := inv_table (t' := tk) (more := #[rawInt pos.line, rawInt pos.col, .ref c']) (h' := h1.push (dlObj (X.env.qual ++ "<lambda>") params body scope (cloFrom X.env.cells scope.names []) ((X.mg "__name__").getD .none) (.ref c') ctv (.ref s1.heap.objs.size))) I2 hP
      (fun b o hb q => Heap.get?_push_of_some _ (ext b o hb q)) (Heap.get?_push_of_some _ tab) ge ⟨oc, vs, t, Heap.get?_push_of_some _ hoc, hd, hv⟩
    obtain ⟨x1, x2⟩ := tabs_new (p0 := pos) (c' := c') hT hP ok at' nC hu
    have off : ∀ b, s1.heap.objs.size ≤ b → b ≠ c' → b ≠ P → upd (upd H P (.tbl (ps ++ #[rawInt pos.line, rawInt pos.col, .ref c']))) c' (CodeO c' (X.env.qual ++ "<lambda>")) b = none := fun b hb n1 n2 => by
      rw [upd_ne n1, upd_ne n2]
      exact I1.hok.fresh hb
    have hPlt : @LT.lt Nat _ P s1.heap.objs.size := I1.hok.lt hP
    have lt : @LT.lt Nat _ c' h1.objs.size := lt
    have ge : @LE.le Nat _ (s1.heap.push (oneTup u)).objs.size c' := ge
    have n1 : @Ne Nat s1.heap.objs.size c' := by omega
    have n2 : @LE.le Nat _ s1.heap.objs.size h1.objs.size := by omega
    have n3 : @Ne Nat h1.objs.size c' := by omega
    have n4 : @Ne Nat h1.objs.size P := by omega
    exact h h1.objs.size s1.heap.objs.size c' _ ctv u _ _ I3 x1 x2 rv ⟨Heap.get?_push_of_some _ (ext _ _ nDP dGet), off _ (Nat.le_refl _) n1 nDP, dNofr⟩ ⟨Heap.get?_push_size _ rfl, off _ n2 n3 n4, new_nofr I1 n2⟩ upd_same
end
/-! ### its names, its call -/
/-- one name of its own, a, that the maker doesn't use; captured ones and globals -/
structure LamD (sc scope : Scope) (a : Str) (N : List Str) : Prop where
  kind : scope.kind = .function
  co : scope.isCoroutine = false
  gen : scope.isGenerator = false
  noc : ∀ y ∈ scope.names, y.2 ≠ .cell
  own : ∀ y ∈ scope.names, y.2 = .local → y.1 = a
  par : scope.names.lookup a = some .local
  out : a ∉ N
  free : ∀ y ∈ scope.names, y.2 = .free → sc.names.lookup y.1 = some .cell ∨ sc.names.lookup y.1 = some .free
def lamDB (sc scope : Scope) (a : Str) (N : List Str) : Bool :=
  decide (scope.kind = .function) && (!scope.isCoroutine && (!scope.isGenerator && (decide (scope.names.lookup a = some .local) && (!N.contains a &&
    scope.names.all fun y => !decide (y.2 = .cell) && ((!decide (y.2 = .local) || decide (y.1 = a)) && (!decide (y.2 = .free) || (decide (sc.names.lookup y.1 = some .cell) || decide (sc.names.lookup y.1 = some .free))))))))
theorem lamD_by {sc scope : Scope} {a : Str} {N : List Str} (h : lamDB sc scope a N = true) : LamD sc scope a N := by
  unfold lamDB at h
  simp only [Bool.and_eq_true, Bool.or_eq_true, Bool.not_eq_true', decide_eq_true_eq, decide_eq_false_iff_not, List.all_eq_true] at h
  obtain ⟨h1, h2, h3, h4, h5, h6⟩ := h
  refine ⟨h1, h2, h3, fun y hy => (h6 y hy).1, fun y hy e => (h6 y hy).2.1.resolve_left fun z => z e, h4, fun z => ?_, fun y hy e => (h6 y hy).2.2.resolve_left fun z => z e⟩
  rw [List.contains_iff_mem.mpr z] at h5
  cases h5
theorem LamD.has {X : Cx} {scope : Scope} {a : Str} {N : List Str} (L : LamD X.env.scope scope a N) (ok : X.Ok) : ∀ y ∈ scope.names, y.2 = .free → ∃ c, X.env.cells.lookup y.1 = some c :=
  fun y hy e => ok.has _ ((L.free y hy e).elim (fun k => .inl k) fun k => .inr k)
section
variable {X : Cx} {pins : List (Addr × Obj)} {σ : L2.St} {H HZ : Hp} {s s1 : Shared}
theorem dl_start {A : Around} {outer : List Env} {E : XK} {scope : Scope} {f c' : Addr} {a : Str} {u : Value} {h1 : Heap} {tk : Nat} (I : Inv X pins σ H s) (L : LamD X.env.scope scope a X.N) (e0 : Env0 X.prog X.w X.K X.mg X.base A outer s1 HZ) (hd : A.handled = none)
    (un : Un (frs X.stack) [] H HZ s.heap s1.heap) (hns : h1.Ns s1.heap.objs.size fun y => ([(a, u)] : List (Str × Value)).reverse.lookup y) (kp : ∀ b o, s1.heap.get? b = some o → h1.get? b = some o) :
    Inv (lamCx X A outer s1 HZ E scope f c') [] σ HZ { s1 with heap := h1, toks := tk } := by
  have caught : ∀ {y c}, (cloFrom X.env.cells scope.names []).lookup y = some c → X.env.cells.lookup y = some c := fun {y c} e => by
    rcases cloFrom_mem (PySem.mem_of_lookup e) with hm | ⟨h1, h2⟩
    · cases hm
    · obtain ⟨c1, hc⟩ := L.has I.ok _ h1 rfl
      have hc : X.env.cells.lookup y = some c1 := hc
      rw [hc] at h2
      rw [show c = c1 from h2]
      exact hc
  have looks : ∀ {y}, scope.names.lookup y = some .free → ∃ c, (cloFrom X.env.cells scope.names []).lookup y = some c := fun {y} hl => mem_lookup (cloFrom_has (cells := X.env.cells) (acc := []) (PySem.mem_of_lookup hl))
  have stays : ∀ {c : Addr} {v : Option Value}, H c = none → s.heap.IsCell c v → h1.IsCell c v := fun {c v} n ⟨o, ho, hd⟩ => by
    obtain ⟨sl, q⟩ := un.any ho n (by simp)
    exact ⟨_, kp _ _ q, hd⟩
  have noX : ∀ b : Addr, b ∉ (lamCx X A outer s1 HZ E scope f c').ex := fun b z => absurd (show b ∈ ([] : List Addr) from z) (by simp)
  have okX : (lamCx X A outer s1 HZ E scope f c').Ok := by
    refine ⟨e0.mod, L.kind, rfl, rfl, Nat.le_refl _, fun y z c h1 h2 => I.ok.inj y z c (caught h1) (caught h2), fun y hy => ?_, fun _ _ z _ => Bool.noConfusion (show false = true from z), fun _ => hd, Around.frames_deeper e0.frames, .inr ⟨rfl, rfl⟩, fun b z => absurd z (noX b), e0.bs, e0.bsz, fun b _ _ => noX b,
      fun b z => absurd z (noX b), e0.funs, e0.frf⟩
    have hy : scope.names.lookup y = some .cell ∨ scope.names.lookup y = some .free := hy
    exact hy.elim (fun hy => absurd rfl (L.noc _ (PySem.mem_of_lookup hy))) looks
  refine ⟨okX, rfl, e0.bare, Un.kept kp, ⟨_, hns, fun i y v g1 g2 g3 => ?_⟩, fun y c e => ?_, e0.hok.fresh (Nat.le_refl _), fun y c e => ?_, fun q hq => absurd (show q ∈ ([] : List (Addr × Obj)) ++ [] from hq) (by simp), e0.hok.kept kp, I.len⟩
  · have g3 : Vis scope y := g3
    rcases g3 with k | k | k
    · have e := L.own _ (PySem.mem_of_lookup k) rfl
      have e : y = a := e
      exact absurd (List.mem_of_getElem? g1) (by rw [e]; exact L.out)
    · exact absurd rfl (L.noc _ (PySem.mem_of_lookup k))
    · obtain ⟨m, hn, hl⟩ := I.loc
      have fr := L.free _ (PySem.mem_of_lookup k) rfl
      obtain ⟨w', r, q⟩ := hl i y v g1 g2 (fr.elim (fun k => .inr (.inl k)) fun k => .inr (.inr k))
      obtain ⟨c2, h2⟩ := looks k
      have c1 := caught h2
      refine ⟨w', r, .inr ⟨.inr k, c2, h2, ?_⟩⟩
      rcases q with ⟨kl, _⟩ | ⟨_, c3, e', z⟩
      · have kl : X.env.scope.names.lookup y = some .local := kl
        rcases fr with k2 | k2 <;> rw [show X.env.scope.names.lookup y = _ from k2] at kl <;> cases kl
      · rw [c1] at e'
        cases e'
        exact stays (I.freeC y _ c1) z
  · obtain ⟨w', z⟩ := I.cell y c (caught e)
    exact ⟨w', stays (I.freeC y c (caught e)) z⟩
  · obtain ⟨v, o, ho, hd⟩ := I.cell y c (caught e)
    exact un.free c o ho (I.freeC y c (caught e)) (by simp)
/-- it is called, in the def that got it -/
theorem dl_act {CXg : CXT} {Eg : XK} {Ng : List Str} {qg x : Str} {sg : Scope} {g f D c' : Addr} {cdg pm ctv u : Value} {params : Arguments} {body : Expr} {scope : Scope} {k i : Nat} {a : Str} {pn : List (Addr × Obj)} {xe : Value → Shared → Prop} {W : WX} {E : XK} {tb : TE} {p1 p2 : Pos}
    (I : Inv X pins σ H s) (L : LamD X.env.scope scope a X.N) (hf : Loose X H s f (dlObj (X.env.qual ++ "<lambda>") params body scope (cloFrom X.env.cells scope.names []) pm (.ref c') ctv (.ref D))) (hD : Loose X H s D (oneTup u))
    (hb : ∀ s2 : Shared, s2.heap.get? D = some (oneTup u) → BindsTo s2 (dlFn (X.env.qual ++ "<lambda>") params body scope (cloFrom X.env.cells scope.names []) pm (.ref c') ctv (.ref D)) ⟨[], []⟩ [(a, u)])
    (tk : Takes ((cxOf CXg X.prog X.w X.K X.mg X.base Ng qg sg g cdg X.A X.stack s H Eg).tr pn xe) W) (hW : ∀ cls d σ' H', E cls d H' → W cls d σ' H') (hr : Room (k + 1) (X.A.deeper (envOfC qg sg s.heap.objs.size g cdg)))
    (bodyOk : ∀ (A : Around) (outer : List Env) (s : Shared) (H : Hp), Room k (A.deeper (lamEnv X scope s.heap.objs.size f c')) → PE (lamCx X A outer s H E scope f c') body tb)
    (hN : Ng[i]? = some x) (hv : Vis sg x) (n1 : (x == ("__debug__" : Str)) = false := by decide) (n2 : (x == ("__classdict__" : Str)) = false := by decide) :
    PE ((cxOf CXg X.prog X.w X.K X.mg X.base Ng qg sg g cdg X.A X.stack s H Eg).tr pn xe) (.Call (.Name x p1) [] [] p2)
      (fun σZ HZ Q => σZ[i]? = some (some (.ref f)) ∧ HZ c' = some (CodeO c' (X.env.qual ++ "<lambda>")) ∧ tb σ HZ Q) := by
  refine ⟨fun pinsZ sZ σZ HZ Q IZ ⟨hs, hc, ht⟩ => wpAny_Call_Name_kw (thn ((pe_var (pos := p1) (i := i) hN hv n1 n2).run pinsZ sZ σZ HZ (fun v H1 => v = .ref f ∧ H1 = HZ) IZ ⟨.ref f, hs, rfl, rfl⟩) fun w s1 ⟨v, H1, I1, r1, ev, eH⟩ => ?_)⟩
  subst ev
  rw [eH] at I1
  obtain rfl : w = Value.ref f := r1
  have still : ∀ {b : Addr} {o : Obj}, Loose X H s b o → s1.heap.get? b = some o := fun {b o} l => I1.base.keep b o l.get l.free l.nofr (fun z => nomatch (show b ∈ ([] : List Addr) from z))
  refine PySem.W.callWith_F0 ⟨_, _, _, _, still hf⟩ ?_
  obtain ⟨⟨oc, vs, t, hoc, hdc, hvc⟩, _, _⟩ := I1.hok c' _ hc
  have run : codeAny (model X.prog X.w) (X.A.deeper (envOfC qg sg s.heap.objs.size g cdg)) (.call (.ref f) ⟨[], []⟩) (CR (L2.CX X.prog X.w) (envOfC qg sg s.heap.objs.size g cdg :: X.stack) X.prog X.w HZ s1 Q E) s1 := by
    refine PySem.W.kla_callFunE hr.depth (still hf) rfl L.co L.gen rfl ⟨c', oc, vs, t, rfl, hoc, hdc, hvc⟩ (hb s1 (still hD) _ _ _ _ ?_)
    refine wpAny_newFunctionEnv (fun y hy => L.noc y hy) (fun y hy => ?_) (fun h1 hns hsb => ⟨I1.nolimit.fresh _ hsb, ?_⟩) L.kind
    · obtain rfl := List.mem_singleton.mp hy
      exact L.par
    show codeAny _ _ (.expr body (lamEnv X scope s1.heap.objs.size f c')) _ _
    have kp : ∀ b o, s1.heap.get? b = some o → h1.get? b = some o := fun b o e => hsb.extBut b o (Nat.ne_of_lt (Heap.lt_size e)) (Heap.get?_push_of_some _ e)
    have J : Inv (lamCx X (X.A.deeper (envOfC qg sg s.heap.objs.size g cdg)) (envOfC qg sg s.heap.objs.size g cdg :: X.stack) s1 HZ E scope f c') [] σ HZ { s1 with heap := h1, toks := s1.toks + ([(a, u)] : List (Str × Value)).length } :=
      dl_start I L I1.env0 hr.hd I1.base hns kp
    refine PySem.W.kla_codeExpr (wpAny_mono ((bodyOk _ _ s1 HZ (hr.deeper _)).run [] _ _ HZ Q J ht) (fun v s' hq => ?_) fun _ _ hq => hq)
    obtain ⟨y, H', J', rv, q⟩ := hq
    exact ⟨y, H', J'.os, J'.bare, J'.base, J'.hok, rv, q⟩
  have hx : Passes (L2.CX X.prog X.w) ((cxOf CXg X.prog X.w X.K X.mg X.base Ng qg sg g cdg X.A X.stack s H Eg).tr pn xe) E := passes_call tk hW
  refine wpAny_call (codeAny_mono run fun r s' hq => ?_)
  match r, hq with
  | .error e, hq => exact hx pinsZ σZ HZ s1 e s' I1 hq
  | .ok (.ret u), hq => exact I1.after hq
  | .ok .next, hq => exact hq.elim
  | .ok .brk, hq => exact hq.elim
  | .ok .cont, hq => exact hq.elim
/-- g(lambda a=z: body) -/
theorem pe_dlcall {T : List (Addr × Str)} {TT : (XK → Hp → VK → Prop) → Hp → VK → Prop} {x y a : Str} {g c P : Addr} {k j : Nat} {z : Int} {pg : Arguments} {bg : List Stmt} {sg : Scope} {dV kV doc pm cdv ct oc : Value} {an od : Option Addr} {osl : Array (Option Value)} {Ng : List Str}
    {params : Arguments} {body : Expr} {scope : Scope} {t : XK → TE} {p p0 lpos pos : Pos} (hg : Gl X x) (hm : X.mg x = some (.ref g)) (hk : PySem.W.keepIn X.K (.ref g) = true)
    (lk : X.K.lookup g = some ⟨oc, od, .func (PySem.W.fnOf x x pg bg sg dV kV doc pm an cdv ct), osl⟩) (hcg : PySem.W.codeIn X.K cdv x = true) (hb : L2.Binds X.K (PySem.W.fnOf x x pg bg sg dV kV doc pm an cdv ct) [y] []) (Sg : FnScope Ng [y] sg) (hNg : Ng[0]? = some y) (hva : Vis sg y)
    (hG : GivesTo X Ng x sg g cdv bg y (X.env.qual ++ "<lambda>") TT)
    (TB : TabB X.base X.mg c P) (hcode : X.env.code = .ref c) (hmT : (P, X.env.qual ++ "<lambda>") ∈ T) (hu : ∀ p ∈ T, p.1 = P → p.2 = X.env.qual ++ "<lambda>") (hr : Room (k + 2) X.A) (L : LamD X.env.scope scope a X.N)
    (hdef : defaultsOf params X.env = ([eval (.Constant (.int z) j p0) X.env], [])) (hkw : params.kwonlyargs = [])
    (binds : ∀ (q : Str) (cl : List (Str × Addr)) (pm cv ctv u : Value) (D : Addr) (s2 : Shared), s2.heap.get? D = some (oneTup u) → BindsTo s2 (dlFn q params body scope cl pm cv ctv (.ref D)) ⟨[], []⟩ [(a, u)])
    (bodyOk : ∀ (A : Around) (outer : List Env) (s : Shared) (H : Hp) (E : XK) (f c' : Addr), Room k (A.deeper (lamEnv X scope s.heap.objs.size f c')) → PE (lamCx X A outer s H E scope f c') body (t E))
    (n0 : (x == ("__debug__" : Str)) = false := by decide) (n1 : (y == ("__debug__" : Str)) = false := by decide) (n2 : (y == ("__classdict__" : Str)) = false := by decide) :
    PE X (.Call (.Name x p) [.Lambda params body scope lpos] [] pos) (tLam T TT t) := by
  refine ⟨fun pins s σ H Q I ⟨hT, h⟩ => wpAny_Call_Name_kw (ld_glob I hg hm (PySem.W.callWith_K (h₀ := X.base) I.ok.mod.kin hk ?_ (by rfl) (by rfl)) n0)⟩
  show wpAny _ _ (spliced ((false, eval (.Lambda params body scope lpos) X.env) :: backTo pos (starEach [] X.env))) _ _ s
  refine Calls.spliced_cons (dl_make I TB hcode hmT hu hT hdef hkw (L.has I.ok) (fun _ _ z => z) fun f D c' pm' ctv u H1 s' I1 eN T1 ru hD hf hco => Calls.spliced_nil ⟨I1.kIn, ?_⟩)
  have run : codeAny (model X.prog X.w) X.A (.call (.ref g) ⟨[.ref f], []⟩) (CR C8.CX0 X.stack X.prog X.w H1 s' Q C8.E0) s' := by
    refine run_ofS (N := Ng) (ps := [y]) (us := [.ref f]) (vs := [.ref f]) lk hcg Sg hr I1.env0 (hb s' [.ref f] I1.kIn rfl) (.cons rfl .nil) rfl fun hr' => ?_
    obtain ⟨t', ht', hq'⟩ := hG f c' s' H1 Q (fun E H' Q' => t E σ H' Q') (fun W pn xe E p1 p2 tk hW => dl_act (i := 0) I1 L hf hD (fun s2 q => binds _ _ _ _ _ _ _ s2 q) tk hW hr' (fun A outer s H hr2 => bodyOk A outer s H E f c' hr2) hNg hva n1 n2) hco (h H1 eN T1)
    exact ⟨t', ht'.nox, hq'⟩
  refine wpAny_call (codeAny_mono run fun r s2 hq => ?_)
  match r, hq with
  | .error e, hq => exact (show False from hq).elim
  | .ok (.ret u), hq => exact I1.after hq
  | .ok .next, hq => exact hq.elim
  | .ok .brk, hq => exact hq.elim
  | .ok .cont, hq => exact hq.elim
end
end VG

set_option maxRecDepth 100000
/-! Data: their types, their sizes, data that stand on new addresses alone. -/
namespace VG
open PySem PySem.Spec PyProof.Rows L2
def tyN : PyData → String
  | .none => "NoneType"
  | .bool _ => "bool"
  | .int _ => "int"
  | .str _ => "str"
  | .list _ => "list"
  | .tuple _ => "tuple"
  | .dict _ => "dict"
theorem tyx_list {K : PySem.W.Frag} {H : Hp} {a : Addr} {xs : List V} (h : SqL K H a xs) : TyX K H (.ref a) (.type "list") := by
  rcases h with (h | ⟨o, h⟩) | ⟨o, its, n, h, c, _⟩
  · exact .base (.lst h)
  · exact .base (.frz h)
  · exact .kList h c
theorem tyx_tup {K : PySem.W.Frag} {H : Hp} {a : Addr} {xs : List V} (h : SqT K H a xs) : TyX K H (.ref a) (.type "tuple") := by
  rcases h with (h | ⟨o, h⟩) | ⟨o, its, n, h, c, _⟩
  · exact .base (.tup h)
  · exact .fTuple h
  · exact .kTuple h c
theorem Dp.tyx {K : PySem.W.Frag} {H : Hp} : ∀ {v : V} {d : PyData}, Dp K H v d → TyX K H v (.type (tyN d))
  | _, _, .non => .base .non
  | _, _, .bl b => .base (.bl b)
  | _, _, .int i => .base (.int i)
  | _, _, .str x => .base (.str x)
  | _, _, .lst h _ => tyx_list h
  | _, _, .tup h _ => tyx_tup h
/-- at most n deep, at most 1000 wide -/
def fit : Nat → PyData → Bool
  | _, .none => true
  | _, .bool _ => true
  | _, .int _ => true
  | _, .str _ => true
  | n + 1, .list ds => decide (ds.length ≤ 1000) && ds.all (fit n)
  | n + 1, .tuple ds => decide (ds.length ≤ 1000) && ds.all (fit n)
  | _, _ => false
/-- what H' has more than H -/
def newer (H H' : Hp) : Hp := fun b => match H b with | none => H' b | some _ => none
theorem newer_at {H H' : Hp} {b : Addr} (h : H b = none) : newer H H' b = H' b := by unfold newer; rw [h]
theorem newer_none {H H' : Hp} {b : Addr} {o : HO} (h : H b = some o) : newer H H' b = none := by unfold newer; rw [h]
theorem newer_sub {H H' : Hp} : Same (newer H H') H' := fun b o e => by
  cases h : H b with
  | none => rw [newer_at h] at e; exact e
  | some u => rw [newer_none h] at e; cases e
/-- fewer were there ahead, more stand now -/
theorem newer_mono {H G H' G' : Hp} (h : ∀ b, H b = none → G b = none) (s : ∀ b, G b = none → ∀ o, H' b = some o → G' b = some o) : Same (newer H H') (newer G G') := fun b o e => by
  cases z : H b with
  | none =>
    rw [newer_at z] at e
    rw [newer_at (h b z)]
    exact s b (h b z) o e
  | some u =>
    rw [newer_none z] at e
    cases e
theorem DpAll.at' {K : PySem.W.Frag} {H : Hp} : ∀ {xs : List V} {ds : List PyData} {i : Nat} {x : V}, DpAll K H xs ds → xs[i]? = some x → ∃ d, ds[i]? = some d ∧ Dp K H x d
  | _, _, 0, _, .cons h _, e => by
    cases e
    exact ⟨_, rfl, h⟩
  | _, _, i + 1, _, .cons _ t, e => DpAll.at' (i := i) t e
theorem DpAll.len {K : PySem.W.Frag} {H : Hp} : ∀ {xs : List V} {ds : List PyData}, DpAll K H xs ds → xs.length = ds.length
  | _, _, .nil => rfl
  | _, _, .cons _ t => congrArg (· + 1) (DpAll.len t)
theorem DpAll.snoc {K : PySem.W.Frag} {H : Hp} {y : V} {d : PyData} (h : Dp K H y d) : ∀ {xs : List V} {ds : List PyData}, DpAll K H xs ds → DpAll K H (xs ++ [y]) (ds ++ [d])
  | _, _, .nil => .cons h .nil
  | _, _, .cons g t => .cons g (DpAll.snoc h t)
/-- while a list of copies grows at D: what is there -/
structure Copying (K : PySem.W.Frag) (H : Hp) (D : Addr) (ds : List PyData) (i : Nat) (G : Hp) : Prop where
  ex : ∃ acc, G D = some (.lst acc) ∧ acc.length = i ∧ DpAll K (newer (upd H D (.lst [])) G) acc (ds.take i)
  same : Same H G
theorem Copying.start {K : PySem.W.Frag} {H : Hp} {D : Addr} {ds : List PyData} (hD : H D = none) : Copying K H D ds 0 (upd H D (.lst [])) :=
  ⟨⟨[], upd_same, rfl, .nil⟩, fun b o e => by rw [upd_ne (ne_of_none e hD)]; exact e⟩
theorem Copying.more {K : PySem.W.Frag} {H G G' : Hp} {D : Addr} {ds : List PyData} {i : Nat} {d : PyData} {y : V} (hD : H D = none) (c : Copying K H D ds i G) (hd : ds[i]? = some d) (s : Same G G') (hy : Dp K (newer G G') y d) :
    ∃ acc, G' D = some (.lst acc) ∧ acc.length = i ∧ Copying K H D ds (i + 1) (upd G' D (.lst (acc ++ [y]))) := by
  obtain ⟨⟨acc, ea, el, ed⟩, sm⟩ := c
  have off : ∀ {b : Addr} {u : HO}, b ≠ D → upd G' D u b = G' b := fun h => upd_ne h
  refine ⟨acc, s _ _ ea, el, ⟨acc ++ [y], upd_same, by rw [List.length_append, el]; rfl, ?_⟩, fun b o e => by rw [off (ne_of_none e hD)]; exact s _ _ (sm _ _ e)⟩
  have et : ds.take (i + 1) = ds.take i ++ [d] := by
    rw [List.take_add_one, hd]
    rfl
  rw [et]
  refine DpAll.snoc (Dp.same (newer_mono (fun b z => ?_) fun b z o e => ?_) d y hy) (DpAll.same (newer_mono (fun b z => z) fun b z o e => ?_) _ _ ed)
  · have n : b ≠ D := fun q => by
      rw [q, ea] at z
      cases z
    rw [upd_ne n]
    cases q : H b with
    | none => rfl
    | some o =>
      rw [sm b o q] at z
      cases z
  · have n : b ≠ D := fun q => by
      rw [q, upd_same] at z
      cases z
    rw [off n]
    exact e
  · have n : b ≠ D := fun q => by
      rw [q, upd_same] at z
      cases z
    rw [off n]
    exact s _ _ e
theorem Copying.all {K : PySem.W.Frag} {H G : Hp} {D : Addr} {ds : List PyData} (hD : H D = none) (c : Copying K H D ds ds.length G) : ∃ acc, G D = some (.lst acc) ∧ DpAll K (newer H G) acc ds := by
  obtain ⟨⟨acc, ea, _, ed⟩, sm⟩ := c
  rw [List.take_length] at ed
  refine ⟨acc, ea, DpAll.same (newer_mono (fun b z => ?_) fun b _ o e => e) _ _ ed⟩
  by_cases n : b = D
  · rw [n]
    exact hD
  · rw [upd_ne n] at z
    exact z
/-- copied(x), x data at most n deep: the same data on new addresses -/
def spCopy (K : PySem.W.Frag) (n : Nat) : Sp := fun vs H Q _ => ∃ (x : V) (d : PyData), vs = [x] ∧ Dp K H x d ∧ fit n d = true ∧ ∀ (y : V) (H' : Hp), Same H H' → Dp K (newer H H') y d → Q y H'
def spPrev (K : PySem.W.Frag) : Nat → Sp
  | 0 => fun _ _ _ _ => False
  | n + 1 => spCopy K n
/-- how the rest of such a def is told of a scalar -/
theorem dp_newer {K : PySem.W.Frag} {H G : Hp} {x : V} {d : PyData} (h : Dp K H x d) (n1 : ∀ ds, d ≠ .list ds) (n2 : ∀ ds, d ≠ .tuple ds) : Dp K G x d := by
  cases h with
  | non => exact .non
  | bl b => exact .bl b
  | int i => exact .int i
  | str z => exact .str z
  | lst => exact absurd rfl (n1 _)
  | tup => exact absurd rfl (n2 _)
end VG

set_option maxRecDepth 100000
/-! Own errors: an __init__ that calls super().__init__('..'), keeps copies of what it got, then the name of its class as its code. -/
namespace VG
open PySem PySem.Spec PyProof.Rows L2
/-- without what is told by a property alone -/
def nox (H : Hp) : Hp := fun b => match H b with
  | some (.ext _) => none
  | o => o
theorem nox_of {H : Hp} {b : Addr} {o : HO} (h : H b = some o) (n : ∀ φ, o ≠ .ext φ) : nox H b = some o := by
  unfold nox
  rw [h]
  cases o <;> first | rfl | exact absurd rfl (n _)
theorem of_nox {H : Hp} {b : Addr} {o : HO} (h : nox H b = some o) : H b = some o ∧ ∀ φ, o ≠ .ext φ := by
  unfold nox at h
  cases e : H b with
  | none =>
    rw [e] at h
    cases h
  | some u =>
    rw [e] at h
    cases u <;> cases h <;> exact ⟨rfl, fun φ z => by cases z⟩
theorem SqL.nox {K : PySem.W.Frag} {H : Hp} {a : Addr} {xs : List V} (h : SqL K H a xs) : SqL K (VG.nox H) a xs := by
  rcases h with (h | ⟨o, h⟩) | h
  · exact .inl (.inl (nox_of h fun _ z => by cases z))
  · exact .inl (.inr ⟨o, nox_of h fun _ z => by cases z⟩)
  · exact .inr h
theorem SqT.nox {K : PySem.W.Frag} {H : Hp} {a : Addr} {xs : List V} (h : SqT K H a xs) : SqT K (VG.nox H) a xs := by
  rcases h with (h | ⟨o, h⟩) | h
  · exact .inl (.inl (nox_of h fun _ z => by cases z))
  · exact .inl (.inr ⟨o, nox_of h fun _ z => by cases z⟩)
  · exact .inr h
mutual
theorem Dp.nox {K : PySem.W.Frag} {H : Hp} : ∀ (d : PyData) (v : V), Dp K H v d → Dp K (VG.nox H) v d
  | .none, _, h => by cases h; exact .non
  | .bool b, _, h => by cases h; exact .bl b
  | .int i, _, h => by cases h; exact .int i
  | .str x, _, h => by cases h; exact .str x
  | .list ds, _, h => by
    cases h with
    | lst hs hd => exact .lst (SqL.nox hs) (DpAll.nox ds _ hd)
  | .tuple ds, _, h => by
    cases h with
    | tup hs hd => exact .tup (SqT.nox hs) (DpAll.nox ds _ hd)
  | .dict _, _, h => by cases h
theorem DpAll.nox {K : PySem.W.Frag} {H : Hp} : ∀ (ds : List PyData) (vs : List V), DpAll K H vs ds → DpAll K (VG.nox H) vs ds
  | [], _, h => by cases h; exact .nil
  | d :: ds, _, h => by
    cases h with
    | cons h t => exact .cons (Dp.nox d _ h) (DpAll.nox ds _ t)
end
/-- fields and the data that they hold -/
def FlOk (K : PySem.W.Frag) (H : Hp) (fs : List (Str × V)) (FL : List (Str × PyData)) : Prop := fs.map (·.1) = FL.map (·.1) ∧ DpAll K H (fs.map (·.2)) (FL.map (·.2))
theorem FlOk.nil {K : PySem.W.Frag} {H : Hp} : FlOk K H [] [] := ⟨rfl, .nil⟩
theorem FlOk.cons {K : PySem.W.Frag} {H : Hp} {fs : List (Str × V)} {FL : List (Str × PyData)} {f : Str} {v : V} {d : PyData} (h : Dp K H v d) (t : FlOk K H fs FL) : FlOk K H ((f, v) :: fs) ((f, d) :: FL) :=
  ⟨congrArg (f :: ·) t.1, .cons h t.2⟩
theorem FlOk.same {K : PySem.W.Frag} {H H' : Hp} {fs : List (Str × V)} {FL : List (Str × PyData)} (e : Same H H') (t : FlOk K H fs FL) : FlOk K H' fs FL := ⟨t.1, DpAll.same e _ _ t.2⟩
theorem FlOk.len {K : PySem.W.Frag} {H : Hp} {fs : List (Str × V)} {FL : List (Str × PyData)} (t : FlOk K H fs FL) : fs.length = FL.length := by
  have z := congrArg List.length t.1
  rw [List.length_map, List.length_map] at z
  exact z
theorem FlOk.get {K : PySem.W.Frag} {H : Hp} {f : Str} {d : PyData} : ∀ {fs : List (Str × V)} {FL : List (Str × PyData)}, FlOk K H fs FL → FL.lookup f = some d → ∃ v, fs.lookup f = some v ∧ Dp K H v d
  | [], [], _, h => by cases h
  | (g, v) :: fs, (g', e) :: FL, ⟨h1, h2⟩, h => by
    have h1 := List.cons.inj h1
    have eg : g = g' := h1.1
    subst eg
    have h2 : DpAll K H (v :: fs.map (·.2)) (e :: FL.map (·.2)) := h2
    cases h2 with
    | cons hv ht =>
      rw [List.lookup_cons] at h ⊢
      cases q : f == g with
      | true =>
        rw [q] at h
        cases h
        exact ⟨v, rfl, hv⟩
      | false =>
        rw [q] at h
        exact FlOk.get ⟨h1.2, ht⟩ h
  | [], _ :: _, ⟨h, _⟩, _ => by cases h
  | _ :: _, [], ⟨h, _⟩, _ => by cases h
/-- an error at a is being made: H behind super().__init__, G now, FL what it holds (the last first) -/
structure Stg (K : PySem.W.Frag) (H : Hp) (a C : Addr) (FL : List (Str × PyData)) (G : Hp) : Prop where
  ex : ∃ fs, FlOk K (nox (newer H G)) fs FL ∧ ((FL = [] ∧ G a = some (exo a C none)) ∨ ∃ dx, H dx = none ∧ dx ≠ a ∧ G a = some (exo a C (some dx)) ∧ G dx = some (exd dx fs))
  but : ∀ b o, b ≠ a → H b = some o → G b = some o
  at_ : (H a).isSome = true
section
variable {K : PySem.W.Frag} {H G G1 : Hp} {a C : Addr} {FL : List (Str × PyData)}
theorem Stg.start (h : H a = some (exo a C none)) : Stg K H a C [] H := ⟨⟨[], .nil, .inl ⟨rfl, h⟩⟩, fun _ _ _ e => e, by rw [h]; rfl⟩
theorem Stg.on (s : Stg K H a C FL G) (sm : Same G G1) : Stg K H a C FL G1 := by
  obtain ⟨⟨fs, hf, hx⟩, but, ha⟩ := s
  refine ⟨⟨fs, hf.same fun b o e => ?_, ?_⟩, fun b o n e => sm _ _ (but b o n e), ha⟩
  · obtain ⟨e1, e2⟩ := of_nox e
    exact nox_of (newer_mono (fun _ z => z) (fun b _ o q => sm b o q) b o e1) e2
  · rcases hx with ⟨e1, e2⟩ | ⟨dx, h1, h2, h3, h4⟩
    · exact .inl ⟨e1, sm _ _ e2⟩
    · exact .inr ⟨dx, h1, h2, sm _ _ h3, sm _ _ h4⟩
theorem exo_ext {φ : HO} {e C : Addr} {d : Option Addr} (h : φ = exo e C d) : ∃ ψ, φ = .ext ψ := ⟨_, h⟩
/-- a field is stored -/
theorem Stg.store {σ : L2.St} {R : L2.St → Hp → Prop} {f : Str} {y : V} {d : PyData} (s : Stg K H a C FL G) (hy : Dp K (nox (newer H G)) y d) (hl : FL.length ≤ 900) (next : ∀ G', Stg K H a C ((f, d) :: FL) G' → R σ G') :
    (G a = some (exo a C none) ∧ ∀ dx, G dx = none → dx ≠ a → R σ (upd (upd G dx (exd dx [(f, y)])) a (exo a C (some dx)))) ∨
      ∃ (dx : Addr) (fs : List (Str × V)), G a = some (exo a C (some dx)) ∧ G dx = some (exd dx fs) ∧ fs.length ≤ 900 ∧ R σ (upd G dx (exd dx ((f, y) :: fs))) := by
  obtain ⟨⟨fs, hf, hx⟩, but, ha⟩ := s
  have nH : ∀ {b : Addr}, G b = none → b ≠ a → H b = none := fun {b} z n => by
    cases q : H b with
    | none => rfl
    | some o =>
      rw [but b o n q] at z
      cases z
  have nA : ∀ {b : Addr} {o : HO}, newer H G b = some o → b ≠ a := fun {b o} e z => by
    obtain ⟨u, hu⟩ := Option.isSome_iff_exists.mp ha
    rw [z, newer_none hu] at e
    cases e
  rcases hx with ⟨rfl, e2⟩ | ⟨dx, h1, h2, h3, h4⟩
  · refine .inl ⟨e2, fun dx hdx ne => next _ ⟨⟨[(f, y)], ?_, .inr ⟨dx, nH hdx ne, ne, upd_same, by rw [upd_ne ne, upd_same]⟩⟩, fun b o n e => ?_, ha⟩⟩
    · refine FlOk.cons (Dp.same (fun b o e => ?_) d y hy) .nil
      obtain ⟨e1, e3⟩ := of_nox e
      refine nox_of (newer_mono (fun _ z => z) (fun b _ o q => ?_) b o (H := H) (G := H) (H' := fun b => if b = a then none else G b) ?_) e3
      · have q : (if b = a then none else G b) = some o := q
        by_cases n : b = a
        · rw [if_pos n] at q
          cases q
        · rw [if_neg n] at q
          rw [upd_ne n, upd_ne (ne_of_none q hdx)]
          exact q
      · have n := nA e1
        have z := newer_sub b o e1
        cases w : H b with
        | none =>
          rw [newer_at w, if_neg n]
          exact z
        | some u =>
          rw [newer_none w] at e1
          cases e1
    · rw [upd_ne n]
      have z := but b o n e
      rw [upd_ne (ne_of_none z hdx)]
      exact z
  · refine .inr ⟨dx, fs, h3, h4, by rw [hf.len]; exact hl, next _ ⟨⟨(f, y) :: fs, ?_, .inr ⟨dx, h1, h2, by rw [upd_ne (Ne.symm h2)]; exact h3, upd_same⟩⟩, fun b o n e => ?_, ha⟩⟩
    · have sm : Same (nox (newer H G)) (nox (newer H (upd G dx (exd dx ((f, y) :: fs))))) := fun b o e => by
        obtain ⟨e1, e3⟩ := of_nox e
        have z := newer_sub b o e1
        have nd : b ≠ dx := fun q => by
          rw [q, h4] at z
          exact e3 _ (Option.some.inj z).symm
        refine nox_of ?_ e3
        cases w : H b with
        | none =>
          rw [newer_at w, upd_ne nd]
          exact z
        | some u =>
          rw [newer_none w] at e1
          cases e1
      exact FlOk.cons (Dp.same sm d y hy) (hf.same sm)
    · have z := but b o n e
      rw [upd_ne (ne_of_none e h1)]
      exact z
end
/-! ### the statements of such an __init__ behind super().__init__('..') -/
/-- self.f = copied(par) for each field and the slot of its parameter, then self.code = self.__class__.__name__ -/
inductive IniSts (ps : List Str) : List (Str × Nat) → List Stmt → Prop where
  | code {x : Str} {p1 p2 p3 p4 p5 p6 : Pos} (h : ps[0]? = some x) : IniSts ps [] [.Assign [.Attribute (.Name x p1) "code" p2] (.Attribute (.Attribute (.Name x p3) "__class__" p4) "__name__" p5) p6]
  | fld {x y f : Str} {i : Nat} {l : List (Str × Nat)} {ss : List Stmt} {p1 p2 p3 p4 p5 p6 : Pos} (h : ps[0]? = some x) (hy : ps[i]? = some y) (t : IniSts ps l ss) :
      IniSts ps ((f, i) :: l) (.Assign [.Attribute (.Name x p1) f p2] (.Call (.Name "copied" p3) [.Name y p4] [] p5) p6 :: ss)
/-- what stands in the parameters' slots -/
def Args (K : PySem.W.Frag) (n : Nat) (σ : L2.St) (H : Hp) : List (Str × Nat) → List PyData → Prop
  | [], [] => True
  | p :: l, d :: ds => (∃ x, σ[p.2]? = some (some x) ∧ Dp K (nox H) x d ∧ fit n d = true) ∧ Args K n σ H l ds
  | _, _ => False
/-- the fields behind them, the last first -/
def after : List (Str × Nat) → List PyData → List (Str × PyData) → List (Str × PyData)
  | p :: l, d :: ds, FL => after l ds ((p.1, d) :: FL)
  | _, _, FL => FL
def tIni (K : PySem.W.Frag) (C : Addr) (nm : Str) (n : Nat) (l : List (Str × Nat)) : TS := fun D σ G => ∃ (H : Hp) (a : Addr) (FL : List (Str × PyData)) (rs : List PyData), σ[0]? = some (some (.ref a)) ∧ H a = some (exo a C none) ∧ Stg K H a C FL G ∧
  Args K n σ H l rs ∧ FL.length + l.length ≤ 100 ∧ ∀ G', Stg K H a C (("code", .str nm) :: after l rs FL) G' → D.nx σ G'
section
variable {X : Cx} {C fC : Addr} {fdC : FuncData} {k n : Nat} {nm : Str}
/-- an own error's class, as its __init__ needs it -/
structure IniC (K : PySem.W.Frag) (C : Addr) (nm : Str) : Prop where
  oex : OexC K C
  cls : ClsTxt K C nm
  own : OwnX K C
theorem pss_ini (hX : ∀ x i p, X.N[i]? = some x → PE X (.Name x p) (tVar i)) (T : IniC X.K C nm) (GC : FnOk X.prog X.w X.K X.mg X.base CX0 k fC fdC ["value"] (spCopy X.K n)) (hr : Room k X.A) (hg : Gl X "copied") (mC : X.mg "copied" = some (.ref fC))
    (hk : PySem.W.keepIn X.K (.ref fC) = true) (bC : L2.Binds X.K fdC ["value"] []) :
    ∀ {l : List (Str × Nat)} {ss : List Stmt}, (∀ p ∈ l, p.1 ∈ exFields) → IniSts X.N l ss → PSs X ss (tIni X.K C nm n l) := by
  intro l ss hf hs
  induction hs with
  | code h =>
    refine ⟨fun pins s σ H D I hh => (pss_one (ps_ost (hX _ 0 _ h) (pe_clsName (hX _ 0 _ h)))).run pins s σ H D I ?_⟩
    obtain ⟨H0, a, FL, rs, h0, hae, st, ha, hl, q⟩ := hh
    have ex : H a = some (exo a C none) ∨ ∃ (dx : Addr) (fs : List (Str × V)), H a = some (exo a C (some dx)) ∧ H dx = some (exd dx fs) := by
      obtain ⟨fs, _, ⟨_, e⟩ | ⟨dx, _, _, e1, e2⟩⟩ := st.ex
      · exact .inl e
      · exact .inr ⟨dx, fs, e1, e2⟩
    refine ⟨_, h0, a, C, nm, rfl, T.cls, ex, _, h0, a, C, rfl, T.oex, T.own.no _ (by decide), ?_⟩
    refine st.store (R := D.nx) (.str nm) (by have := hl; simp at this; omega) fun G' s' => q G' ?_
    match rs, ha with
    | [], _ => exact s'
  | @fld x y f i l ss p1 p2 p3 p4 p5 p6 h hy t ih =>
    have ih := ih fun p hp => hf p (List.mem_cons_of_mem _ hp)
    refine ⟨fun pins s σ H D I hh => (pss_cons (ps_ost (hX _ 0 _ h) (pe_call GC hr hg mC hk bC .nil pass0 (pa_cons (hX _ i _ hy) pa_nil))) ih).run pins s σ H D I ?_⟩
    obtain ⟨H0, a, FL, rs, h0, hae, st, ha, hl, q⟩ := hh
    match rs, ha with
    | d :: rs, ⟨⟨x, hx, hd, hfit⟩, ha⟩ =>
      have noxH : Same (nox H0) H := fun b o e => by
        obtain ⟨e1, e2⟩ := of_nox e
        refine st.but b o (fun z => ?_) e1
        rw [z, hae] at e1
        exact e2 _ (Option.some.inj e1).symm
      refine ⟨x, hx, x, d, rfl, Dp.same noxH d x hd, hfit, fun y G1 sm hy' => ⟨_, h0, a, C, rfl, T.oex, T.own.no _ (hf (f, i) List.mem_cons_self), ?_⟩⟩
      have st1 := st.on sm
      have hy2 : Dp X.K (nox (newer H0 G1)) y d := by
        refine Dp.nox d y (Dp.same (newer_mono (fun b z => ?_) fun _ _ _ e => e) d y hy')
        cases w : H0 b with
        | none => rfl
        | some o =>
          by_cases nb : b = a
          · obtain ⟨fs, _, ⟨_, e⟩ | ⟨dx, _, _, e1, e2⟩⟩ := st.ex
            · rw [nb, e] at z
              cases z
            · rw [nb, e1] at z
              cases z
          · rw [st.but b o nb w] at z
            cases z
      have hl : FL.length + (l.length + 1) ≤ 100 := hl
      refine st1.store (R := (_ : Ends).nx) hy2 (by omega) fun G' s' => ?_
      exact ⟨H0, a, (f, d) :: FL, rs, h0, hae, s', ha, by show FL.length + 1 + l.length ≤ 100; omega, q⟩
end
end VG
namespace VG
open PySem PySem.Spec PyProof.Rows L2
/-- __init__ of an own error: what it leaves -/
def spErr (K : PySem.W.Frag) (C : Addr) (nm : Str) (n m : Nat) (l : List (Str × Nat)) : Sp := fun vs H Q _ => ∃ (a : Addr) (xs : List V) (rs : List PyData), vs = .ref a :: xs ∧ vs.length = m ∧ H a = some (exo a C none) ∧ Args K n (vs.map some) H l rs ∧ l.length ≤ 100 ∧
  ∀ G', Stg K H a C (("code", .str nm) :: after l rs []) G' → Q .non G'
section
variable {P : Program} {w : World} {K : PySem.W.Frag} {mg : Str → Option Value} {base : Heap} {B i newId : String} {bmB : List Value} {C f cc cda fC : Addr} {qual : Str} {params : Arguments} {rest : List Stmt} {sc : Scope} {fd fdC : FuncData} {ps : List Str} {p0 p1 p2 p3 p4 p5 : Pos} {j k n : Nat} {z nm : Str} {self : Arg} {l : List (Str × Nat)}
theorem ok_ini (hev : SupEv p0 p1 p2 p3 p4 j z) (T : IniTxt P K mg B i newId bmB C f cc cda qual params (superInit p0 p1 p2 p3 p4 p5 j z :: rest) sc fd) (S : IniScope ps sc) (hself : (params.posonlyargs ++ params.args).head? = some self) (hp0 : ps[0]? = some self.arg)
    (TC : IniC K C nm) (GC : FnOk P w K mg base CX0 k fC fdC ["value"] (spCopy K n)) (hg : sc.names.lookup ("copied" : Str) = some .globalImplicit) (mC : mg "copied" = some (.ref fC)) (hk : PySem.W.keepIn K (.ref fC) = true) (bC : L2.Binds K fdC ["value"] [])
    (hps : ∀ x ∈ ps, (x == ("__debug__" : Str)) = false ∧ (x == ("__classdict__" : Str)) = false) (hf : ∀ p ∈ l, p.1 ∈ exFields) (hs : IniSts ps l rest) : FnOk P w K mg base CX0 (k + 1) f fd ps (spErr K C nm n ps.length l) := by
  refine ini_ok hev T S hself hp0 (fun vs H Q E h => ?_) fun A outer s H vs Q E hr h => ?_
  · obtain ⟨_, _, _, _, e, _⟩ := h
    exact e
  · obtain ⟨a, xs, rs, rfl, hl, hea, ha, hn, q⟩ := h
    refine ⟨a, xs, rfl, hea, _, pss_ini (X := iniCx P w K mg base ps qual sc f cda cc A outer s H) (C := C) (nm := nm) (n := n) (fun x i p hx => pe_var hx (.inl (S.par x (List.mem_of_getElem? hx))) (hps x (List.mem_of_getElem? hx)).1 (hps x (List.mem_of_getElem? hx)).2) TC GC hr hg mC hk bC hf hs, ?_⟩
    exact ⟨H, a, [], rs, rfl, hea, Stg.start hea, ha, by show 0 + l.length ≤ 100; omega, q⟩
end
end VG

set_option maxRecDepth 100000
/-! An own error is made and raised: what its class and its dict tell behind that. -/
namespace VG
open PySem PySem.Spec PyProof.Rows L2
/-- the dict of an error: its fields, the last first -/
def ErrD (K : PySem.W.Frag) (H : Hp) (dd : Addr) (FL : List (Str × PyData)) : Prop := ∃ fs, H dd = some (.xd fs) ∧ FlOk K H fs FL
theorem ErrD.same {K : PySem.W.Frag} {H H' : Hp} {dd : Addr} {FL : List (Str × PyData)} (e : Same H H') (h : ErrD K H dd FL) : ErrD K H' dd FL := by
  obtain ⟨fs, h1, h2⟩ := h
  exact ⟨fs, e _ _ h1, h2.same e⟩
def slots : Nat → List Str → List (Str × Nat)
  | _, [] => []
  | i, f :: fs => (f, i) :: slots (i + 1) fs
theorem slots_len : ∀ {i : Nat} {l : List Str}, (slots i l).length = l.length
  | _, [] => rfl
  | i, _ :: l => congrArg (· + 1) (slots_len (i := i + 1) (l := l))
theorem args_of {K : PySem.W.Frag} {n : Nat} {H : Hp} : ∀ {vs : List V} {ds : List PyData} {flds : List Str} {pre : List (Option V)}, DpAll K (nox H) vs ds → (∀ d ∈ ds, fit n d = true) → flds.length = vs.length → Args K n (pre ++ vs.map some) H (slots pre.length flds) ds
  | [], [], [], _, _, _, _ => trivial
  | v :: vs, d :: ds, f :: flds, pre, .cons h t, hf, hl => by
    refine ⟨⟨v, ?_, h, hf d List.mem_cons_self⟩, ?_⟩
    · show (pre ++ (some v :: vs.map some))[pre.length]? = _
      rw [List.getElem?_append_right (Nat.le_refl _), Nat.sub_self]
      rfl
    · have q := args_of (pre := pre ++ [some v]) t (fun d hd => hf d (List.mem_cons_of_mem _ hd)) (Nat.succ.inj hl)
      rw [List.length_append, List.append_assoc] at q
      exact q
/-- what is wished of C(vs ..), C an own error with the fields flds -/
theorem mk_err {K : PySem.W.Frag} {C : Addr} {nm : Str} {n m : Nat} {flds : List Str} {H1 : Hp} {vs : List V} {ds : List PyData} {Q : XK} (hm : flds.length + 1 = m) (hl : flds.length = vs.length) (h100 : flds.length ≤ 100) (hv : DpAll K H1 vs ds) (hf : ∀ d ∈ ds, fit n d = true)
    (q : ∀ (dd : Addr) (H' : Hp), Same H1 H' → ErrD K H' dd (("code", .str nm) :: after (slots 1 flds) ds []) → Q (.ref C) (some dd) H') :
    vs.length ≤ 1000 ∧ ∀ a, H1 a = none → spErr K C nm n m (slots 1 flds) (.ref a :: (vs ++ [])) (upd H1 a (exo a C none))
      (fun v H2 => v = .non ∧ ∃ (d : Addr) (fs : List (Str × V)), H2 a = some (exo a C (some d)) ∧ H2 d = some (exd d fs) ∧ H1 d = none ∧ Q (.ref C) (some d) (upd (del H2 a) d (.xd fs))) (fun _ _ _ => False) := by
  refine ⟨by omega, fun a ha => ?_⟩
  rw [List.append_nil]
  have sm1 : Same (nox H1) (nox (upd H1 a (exo a C none))) := fun b o e => by
    obtain ⟨e1, e2⟩ := of_nox e
    exact nox_of (by rw [upd_ne (ne_of_none e1 ha)]; exact e1) e2
  refine ⟨a, vs, ds, rfl, by show vs.length + 1 = m; omega, upd_same, args_of (pre := [some (.ref a)]) (DpAll.same sm1 _ _ (DpAll.nox _ _ hv)) hf hl, by rw [slots_len]; exact h100, fun G' st => ⟨rfl, ?_⟩⟩
  obtain ⟨⟨fs, hF, ⟨z, _⟩ | ⟨dx, h1, h2, h3, h4⟩⟩, but, _⟩ := st
  · cases z
  · have hd1 : H1 dx = none := by
      rw [upd_ne h2] at h1
      exact h1
    refine ⟨dx, fs, h3, h4, hd1, q dx _ (fun b o e => ?_) ⟨fs, upd_same, hF.same fun b o e => ?_⟩⟩
    · have na := ne_of_none e ha
      rw [upd_ne (ne_of_none e hd1), del_ne na]
      exact but b o na (by rw [upd_ne na]; exact e)
    · obtain ⟨e1, e2⟩ := of_nox e
      have z := newer_sub b o e1
      have nd : b ≠ dx := fun y => by
        rw [y, h4] at z
        exact e2 _ (Option.some.inj z).symm
      have na : b ≠ a := fun y => by
        rw [y, newer_none upd_same] at e1
        cases e1
      rw [upd_ne nd, del_ne na]
      exact z
/-- an own error's class C, called by its name: its __init__ keeps its promise -/
structure ErrC (P : Program) (w : World) (K : PySem.W.Frag) (mg : Str → Option Value) (base : Heap) (nm : Str) (flds : List Str) (C : Addr) (k n : Nat) : Prop where
  ini : IniC K C nm
  glob : mg nm = some (.ref C)
  few : flds.length ≤ 100
  run : ∃ (f : Addr) (fd : FuncData) (ps : List Str), PySem.W.findIn K (.ref C) "__init__" = some (some (.ref f)) ∧ PySem.W.typeIn K (.ref f) = some (.type "function") ∧ L2.Binds K fd ps [] ∧ FnOk P w K mg base CX0 k f fd ps (spErr K C nm n (flds.length + 1) (slots 1 flds))
/-- raise C(e ..); its reading is closed by mk_err -/
def tErr (K : PySem.W.Frag) (C : Addr) (nm : Str) (flds : List Str) (n : Nat) (W : WX) (ta : TA) : TS := fun _ σ H => tMkO C (spErr K C nm n (flds.length + 1) (slots 1 flds)) [] ta σ H fun cls d H' => W cls d σ H'
section
variable {X : Cx} {nm : Str} {flds : List Str} {C : Addr} {k n : Nat} {W : WX} {e : Expr} {es : List Expr} {ta : TA} {p pos pos2 : Pos}
theorem ps_err (T : ErrC X.prog X.w X.K X.mg X.base nm flds C k n) (hc : X.calm = true) (tk : Takes X W) (hr : Room (k + 1) X.A) (hg : Gl X nm) (ha : PA X (e :: es) ta) (n1 : (nm == ("__debug__" : Str)) = false := by decide)
    (n2 : starEach (e :: es) X.env = (false, eval e X.env) :: starEach es X.env := by rfl) (n3 : (backTo pos (starEach es X.env)).any (·.1) = false := by rfl) :
    PS X (.Raise (some (.Call (.Name nm p) (e :: es) [] pos)) none pos2) (tErr X.K C nm flds n W ta) := by
  obtain ⟨f, fd, ps, h1, h2, h3, h4⟩ := T.run
  exact ps_raise hc tk (pmk_oex T.ini.oex h1 h2 h4 hr h3 .nil pass0 hg T.glob ha n1 n2 n3)
end
end VG

set_option maxRecDepth 100000
/-! A def whose code object is known (lambdas are made in it); what a lambda's body may let out. -/
namespace VG
open PySem PySem.Spec PyProof.Rows L2 LamX
section
variable {P : Program} {w : World} {K : PySem.W.Frag} {mg : Str → Option Value} {base : Heap}
theorem okGC {x qual : Str} {st : Stmt} {f c : Addr} {fd : FuncData} {N ps : List Str} {k : Nat} {sp : Sp} (F : Fun K x qual st f fd) (S : FnScope N ps (defScope st)) (hc : fd.code = .ref c) (many : ∀ vs H Q E, sp vs H Q E → vs.length = ps.length)
    (body : ∀ (A : Around) (outer : List Env) (s : Shared) (H : Hp) (vs : List V) (Q : VK) (E : XK), A.guards = some [] → Room k (A.deeper (envOfC qual (defScope st) s.heap.objs.size f (.ref c))) → sp vs H Q E →
      ∃ t, PSs (cxOf CX0 P w K mg base N qual (defScope st) f (.ref c) A outer s H E).nox (defBody st) t ∧
        t { nx := fun _ H' => Q .non H', rt := Q } (L2.start N vs) H) : FnG P w K mg base CX0 (k + 1) f fd ps sp := by
  obtain ⟨oc, od, kV, doc, pm, an, cdv, ct, osl, rfl, lk, hcd⟩ := F.ex
  obtain rfl : cdv = .ref c := hc
  refine ⟨many, fun A outer s H args us vs Q E hG hr e0 hb r q => LamX.run_ofS lk hcd S hr e0 hb r (many _ _ _ _ q) fun hr' => ?_⟩
  obtain ⟨t, h1, h2⟩ := body A outer s H vs Q E hG hr' q
  exact ⟨t, h1.nox, h2⟩
end
theorem lam_passes {X : Cx} {A : Around} {outer : List Env} {s : Shared} {H : Hp} {E : XK} {scope : Scope} {f c' : Addr} : Passes (L2.CX X.prog X.w) (lamCx X A outer s H E scope f c') E := passes_call (W := fun cls d _ H => E cls d H) (takes_of rfl rfl rfl rfl) fun _ _ _ _ h => h
/-- a call that lets nothing out, of a def that may -/
theorem passF {X : Cx} {P : Program} {w : World} : Passes (L2.CX P w) X (fun _ _ _ => False) := fun _ _ _ _ _ _ _ ⟨_, _, _, _, _, _, _, _, _, _, _, _, h⟩ => h.elim
/-- sequences alone -/
def seqs (H : Hp) : Hp := fun b => match H b with
  | some (.lst xs) => some (.lst xs)
  | some (.tup xs) => some (.tup xs)
  | some (.frz o (.lst xs)) => some (.frz o (.lst xs))
  | some (.frz o (.tup xs)) => some (.frz o (.tup xs))
  | _ => none
theorem seqs_sub {H : Hp} {b : Addr} {o : HO} (h : seqs H b = some o) : H b = some o ∧ ∀ ps, o ≠ .tbl ps := by
  unfold seqs at h
  split at h <;> first | (rename_i e; cases h; exact ⟨e, fun _ z => by cases z⟩) | cases h
mutual
theorem Dp.seqs {K : PySem.W.Frag} {H : Hp} : ∀ (d : PyData) (v : V), Dp K H v d → Dp K (VG.seqs H) v d
  | .none, _, h => by cases h; exact .non
  | .bool b, _, h => by cases h; exact .bl b
  | .int i, _, h => by cases h; exact .int i
  | .str x, _, h => by cases h; exact .str x
  | .list ds, _, h => by
    cases h with
    | lst hs hd =>
      refine .lst ?_ (DpAll.seqs ds _ hd)
      rcases hs with (e | ⟨o, e⟩) | e
      · exact .inl (.inl (by unfold VG.seqs; rw [e]))
      · exact .inl (.inr ⟨o, by unfold VG.seqs; rw [e]⟩)
      · exact .inr e
  | .tuple ds, _, h => by
    cases h with
    | tup hs hd =>
      refine .tup ?_ (DpAll.seqs ds _ hd)
      rcases hs with (e | ⟨o, e⟩) | e
      · exact .inl (.inl (by unfold VG.seqs; rw [e]))
      · exact .inl (.inr ⟨o, by unfold VG.seqs; rw [e]⟩)
      · exact .inr e
  | .dict _, _, h => by cases h
theorem DpAll.seqs {K : PySem.W.Frag} {H : Hp} : ∀ (ds : List PyData) (vs : List V), DpAll K H vs ds → DpAll K (VG.seqs H) vs ds
  | [], _, h => by cases h; exact .nil
  | d :: ds, _, h => by
    cases h with
    | cons h t => exact .cons (Dp.seqs d _ h) (DpAll.seqs ds _ t)
end
/-- data stand where tables alone have grown -/
theorem Dp.grown {K : PySem.W.Frag} {H H' : Hp} {d : PyData} {v : V} (e : ExtN H H') (h : Dp K H v d) : Dp K H' v d := Dp.same (fun b o z => e b o (seqs_sub z).1 (seqs_sub z).2) d v (Dp.seqs d v h)
end VG

set_option maxRecDepth 100000
/-! A hook that knows cStatics, and tells the __init__ of errors (whose closure holds their class). -/
namespace VG
open PySem PySem.Spec PyProof.Rows L2
open He (ba Fa DefD Tab Defn AlX)
def asI (g : Addr → Option Obj) (n : Nat) : List Addr := He.asD g n ++ [cStatics]
abbrev FnI : Type := Option (Str × Str × Arguments × FuncBody × Scope × Addr × List Str × Addr)
def fnI (K : PySem.W.Frag) (p : Str × Option Str) : FnI := match K.lookup (He.fAd K p) with
  | some ⟨_, _, .func fd, _⟩ => some (fd.name, fd.qualname, fd.params, fd.body, fd.scope, fd.globals, fd.closure.map (·.1), fd.builtins)
  | _ => none
/-- an error's __init__, as it is written -/
structure IniD where
  cls : Str
  st : Stmt
def IniD.at_ (d : IniD) : Str × Option Str := (d.cls, some "__init__")
def IniD.qual (d : IniD) : Str := d.cls ++ ".__init__"
def IniD.val (d : IniD) : FnI := some ("__init__", d.qual, defArgs d.st, .stmts (defBody d.st), defScope d.st, mainGlobals, ["__class__"], builtinsNs)
abbrev AlI : Type := AlX × List FnI
section
variable {n : Nat} {fa : List Fa} {fn : List DefD} {tf : List Defn} {ex : PySem.W.Frag → Bool} {ins : List IniD}
def obsI (n : Nat) (fa : List Fa) (fn : List DefD) (tf : List Defn) (ex : PySem.W.Frag → Bool) (ins : List IniD) (g : Addr → Option Obj) : AlI :=
  ((He.obsT fa fn [] (He.frT g (asI g n)), ex (He.frT g (asI g n)) && He.tabsB g tf (He.frT g (asI g n))), ins.map fun d => fnI (He.frT g (asI g n)) d.at_)
structure SaysI (fa : List Fa) (fn : List DefD) (tf : List Defn) (ex : PySem.W.Frag → Bool) (ins : List IniD) (w : World) (h : Heap) (K : PySem.W.Frag) : Prop where
  x : He.SaysX fa fn [] tf ex w h K
  ini : ∀ d ∈ ins, fnI K d.at_ = d.val
theorem saysI_of {w : World} {h : Heap} (e : obsI n fa fn tf ex ins h.get? = (He.valX fn [] w, ins.map IniD.val)) : SaysI fa fn tf ex ins w h (He.frT h.get? (asI h.get? n)) := by
  generalize hK : He.frT h.get? (asI h.get? n) = K at *
  have e1 : He.obsT fa fn [] K = He.valT fn [] w := by
    have z := congrArg (fun z : AlI => z.1.1) e
    unfold obsI at z
    rw [hK] at z
    exact z
  have e2 : (ex K && He.tabsB h.get? tf K) = true := by
    have z := congrArg (fun z : AlI => z.1.2) e
    unfold obsI at z
    rw [hK] at z
    exact z
  have e3 : (ins.map fun d => fnI K d.at_) = ins.map IniD.val := by
    have z := congrArg (fun z : AlI => z.2) e
    unfold obsI at z
    rw [hK] at z
    exact z
  obtain ⟨h1, h2⟩ := ba e2
  have tabs : ∀ p ∈ tf, PySem.W.codeHdIn K (He.cT K p).1 (He.cT K p).2 = true ∧ ∃ o, h.get? (He.cT K p).2 = some o ∧ He.emptyTab o = true := fun p hp => by
    obtain ⟨h3, h4⟩ := ba (List.all_eq_true.mp h2 p hp)
    match q : h.get? (He.cT K p).2 with
    | none =>
      rw [q] at h4
      cases h4
    | some o =>
      rw [q] at h4
      exact ⟨h3, o, rfl, h4⟩
  refine ⟨⟨e1, h1, fun p hp => (tabs p hp).1, fun p hp => ?_, fun p hp => ?_⟩, fun d hd => ?_⟩
  · obtain ⟨_, o, q, z⟩ := tabs p hp
    rw [← hK] at q ⊢
    exact He.frT_none q z
  · obtain ⟨_, o, q, z⟩ := tabs p hp
    rw [q, He.emptyTab_eq z]
  · exact List.map_inj_left.mp e3 d hd
def hookI (n : Nat) (fa : List Fa) (fn : List DefD) (tf : List Defn) (ex : PySem.W.Frag → Bool) (ins : List IniD) : PySem.W.Hook where
  α := AlI
  obs := fun s => obsI n fa fn tf ex ins s.heap.get?
  val := fun w => (He.valX fn [] w, ins.map IniD.val)
  says := fun w h => ∃ K : PySem.W.Frag, K.In h ∧ SaysI fa fn tf ex ins w h K
  of := fun _ _ e => ⟨_, He.frT_in, saysI_of e⟩
  keeps := fun _ _ _ ⟨K, hK, c⟩ k => ⟨K, PySem.W.Frag.In.keeps hK k, ⟨c.x.t, c.x.more, c.x.hd, c.x.out, fun p hp => k _ _ (c.x.empty p hp)⟩, c.ini⟩
theorem obsI_eq {g : Addr → Option Obj} {s : Shared} (h : ∀ a, g a = s.heap.get? a) : obsI n fa fn tf ex ins g = (hookI n fa fn tf ex ins).obs s := by
  have e : g = s.heap.get? := funext h
  rw [e] <;> rfl
end
end VG

set_option maxRecDepth 100000
/-! What the head is to tell of an own error, as a Bool. -/
namespace VG
open PySem PySem.Spec PyProof.Rows L2
def clsB (K : PySem.W.Frag) (C : Addr) (nm : Str) : Bool := match K.lookup C with
  | some ⟨.type t, _, .cls cd, sl⟩ => decide (t = "type") && (match cd.mro, sl.toList with
    | .ref C' :: bm, [_, _, some (.str z _), _, some (.builtin n), _] => decide (C' = C) && (decide (z = nm) && (decide (n = "ValueError.__new__") && (cd.hasDict && (!cd.hasDel && PySem.HandSPX.refsVE bm))))
    | _, _ => false)
  | _ => false
theorem clsB_ok {K : PySem.W.Frag} {C : Addr} {nm : Str} (h : clsB K C nm = true) : ∃ (name q : Str) (N : Addr) (bs bm : List Value) (sn : List Str) (sub : List Value) (ab : Bool) (col : Option Bool) (dd : Option Addr) (k0 k1 : Option Value) (tk : Tok) (k3 k5 : Option Value),
    K.lookup C = some (excClassObj name q C N bs bm true sn sub ab col dd k0 k1 (some (.str nm tk)) k3 k5 "ValueError.__new__") ∧ PySem.HandSPX.refsVE bm = true := by
  unfold clsB at h
  split at h
  · rename_i t dd cd sl e
    obtain ⟨h1, h2⟩ := Bool.and_eq_true_iff.mp h
    have ht : t = "type" := of_decide_eq_true h1
    split at h2
    · rename_i C' bm a0 a1 z tk a3 n a5 e1 e2
      simp only [Bool.and_eq_true, decide_eq_true_eq, Bool.not_eq_true'] at h2
      obtain ⟨g1, g2, g3, g4, g5, g6⟩ := h2
      subst ht g1 g2 g3
      obtain ⟨c1, c2, c3, c4, c5, c6, c7, c8, c9, c10, c11⟩ := cd
      have e1 : c3 = .ref C' :: bm := e1
      have g4 : c6 = true := g4
      have g5 : c11 = false := g5
      subst e1 g4 g5
      have es : sl = #[a0, a1, some (.str z tk), a3, some (.builtin "ValueError.__new__"), a5] := Array.toList_inj.mp e2
      subst es
      exact ⟨c1, c5, c4, c2, bm, c7, c8, c9, c10, dd, a0, a1, tk, a3, a5, e, g6⟩
    · cases h2
  · cases h
def nameB (K : PySem.W.Frag) (C : Addr) : Bool := match PySem.W.findCls K (.ref C) (.type "type") "__name__" with
  | some (.get g a o t) => decide (g = .builtin "getset_descriptor.__get__") && (decide (a = .builtin "type.__name__") && (decide (o = .ref C) && decide (t = .type "type")))
  | _ => false
theorem nameB_ok {K : PySem.W.Frag} {C : Addr} (h : nameB K C = true) : PySem.W.findCls K (.ref C) (.type "type") "__name__" = some (.get (.builtin "getset_descriptor.__get__") (.builtin "type.__name__") (.ref C) (.type "type")) := by
  unfold nameB at h
  split at h
  · rename_i g a o t e
    simp only [Bool.and_eq_true, decide_eq_true_eq] at h
    obtain ⟨h1, h2, h3, h4⟩ := h
    rw [e, h1, h2, h3, h4]
  · cases h
/-- an own error's class: all but its __init__ -/
def errB (K : PySem.W.Frag) (nm : Str) : Bool := clsB K (He.ga K nm) nm && (nameB K (He.ga K nm) && (ownXB K (He.ga K nm) && (decide (PySem.W.findIn K (.ref (He.ga K nm)) "__setattr__" = some (some (.builtin "object.__setattr__"))) && (decide (PySem.W.subIn K (.ref (He.ga K nm)) (.type "BaseException") = some true) &&
  (decide (PySem.W.typeIn K (.ref (He.ga K nm)) = some (.type "type")) && (PySem.W.keepIn K (.ref (He.ga K nm)) && (decide (PySem.W.findIn K (.ref (He.ga K nm)) "__class__" = some (some (.builtin "object.__class__"))) && (decide (PySem.W.specialIn K (.builtin "object.__class__") "__get__" = some (some (.builtin "getset_descriptor.__get__"))) &&
  (decide (PySem.W.takesIn K (.builtin "object.__class__") = some true) && (decide (PySem.W.mroIn K (He.ga K nm) (.type "object") = some true) && PySem.W.readsIn K (He.ga K nm) (.type "type")))))))))))
theorem errB_ok {K : PySem.W.Frag} {nm : Str} (h : errB K nm = true) : IniC K (He.ga K nm) nm := by
  unfold errB at h
  simp only [Bool.and_eq_true, decide_eq_true_eq] at h
  obtain ⟨h1, h2, h3, h4, h5, h6, h7, h8, h9, h10, h11, h12⟩ := h
  obtain ⟨name, q, N, bs, bm, sn, sub, ab, col, dd, k0, k1, tk, k3, k5, e, g⟩ := clsB_ok h1
  have o := ownX_of h3
  refine ⟨⟨⟨name, q, N, bs, bm, sn, sub, ab, col, dd, k0, k1, _, k3, k5, e, g⟩, h4, h5, h6, h7⟩, ⟨o.xf.ga, o.xf.gg, h5, ?_, h8, h9, h10, h11, h12, nameB_ok h2, h6, ⟨_, _, _, _, tk, e, rfl⟩⟩, o⟩
  unfold PySem.W.clsIn
  rw [e] <;> rfl
/-- its __init__ -/
def iniB (K : PySem.W.Frag) (nm file : Str) : Bool := decide (PySem.W.findIn K (.ref (He.ga K nm)) "__init__" = some (some (.ref (He.ma K (He.ga K nm) "__init__")))) && (decide (PySem.W.typeIn K (.ref (He.ma K (He.ga K nm) "__init__")) = some (.type "function")) &&
  (decide (PySem.W.ks_superIn K (He.ga K nm) (He.ga K nm) "__init__" = some (some (.builtin "ValueError.__init__"))) && (decide (PySem.W.subIn K (.ref (He.ga K nm)) (.type "ValueError") = some true) && (decide (PySem.W.mroIn K (He.ga K nm) (.ref (He.ga K nm)) = some true) &&
  (decide (PySem.W.nsIn K cStatics "thirdparty.any" = some none) && (match K.lookup (He.ma K (He.ga K nm) "__init__") with
    | some ⟨_, _, .func fd, _⟩ => (match fd.code, fd.closure with
      | .ref cda, [(_, cc)] => decide (fd.defaults = .none) && (PySem.W.codeIn K (.ref cda) (nm ++ ".__init__") && ((match K.lookup cda with
          | some ⟨_, _, .fields vs, _⟩ => (match (vs[2]? : Option Value) with
            | some (.str z _) => decide (z = file)
            | _ => false)
          | _ => false) && (match K.lookup cc with
          | some ⟨_, _, .cell (some (.ref C')), _⟩ => decide (C' = He.ga K nm)
          | _ => false)))
      | _, _ => false)
    | _ => false))))))
structure IniOk (K : PySem.W.Frag) (nm file : Str) : Prop where
  find : PySem.W.findIn K (.ref (He.ga K nm)) "__init__" = some (some (.ref (He.ma K (He.ga K nm) "__init__")))
  typ : PySem.W.typeIn K (.ref (He.ma K (He.ga K nm) "__init__")) = some (.type "function")
  up : PySem.W.ks_superIn K (He.ga K nm) (He.ga K nm) "__init__" = some (some (.builtin "ValueError.__init__"))
  isB : PySem.W.subIn K (.ref (He.ga K nm)) (.type "ValueError") = some true
  self : PySem.W.mroIn K (He.ga K nm) (.ref (He.ga K nm)) = some true
  opq : PySem.W.nsIn K cStatics "thirdparty.any" = some none
  fn : ∃ (oc : Value) (od : Option Addr) (fd : FuncData) (osl : Array (Option Value)) (cda cc : Addr) (x : Str), K.lookup (He.ma K (He.ga K nm) "__init__") = some ⟨oc, od, .func fd, osl⟩ ∧ fd.code = .ref cda ∧ fd.closure = [(x, cc)] ∧ fd.defaults = .none ∧
    PySem.W.codeIn K (.ref cda) (nm ++ ".__init__") = true ∧ (∃ ccl cdd vs ccs tf, K.lookup cda = some ⟨ccl, cdd, .fields vs, ccs⟩ ∧ vs[2]? = some (.str file tf)) ∧ ∃ cl cld csl, K.lookup cc = some ⟨cl, cld, .cell (some (.ref (He.ga K nm))), csl⟩
theorem iniB_ok {K : PySem.W.Frag} {nm file : Str} (h : iniB K nm file = true) : IniOk K nm file := by
  unfold iniB at h
  simp only [Bool.and_eq_true, decide_eq_true_eq] at h
  obtain ⟨h1, h2, h3, h4, h5, h6, h7⟩ := h
  refine ⟨h1, h2, h3, h4, h5, h6, ?_⟩
  split at h7
  · rename_i oc od fd osl e
    split at h7
    · rename_i cda x cc e1 e2
      simp only [Bool.and_eq_true, decide_eq_true_eq] at h7
      obtain ⟨g1, g2, g3, g4⟩ := h7
      refine ⟨oc, od, fd, osl, cda, cc, x, e, e1, e2, g1, g2, ?_, ?_⟩
      · split at g3
        · rename_i ccl cdd vs ccs ec
          split at g3
          · rename_i z tf ez
            rw [of_decide_eq_true g3] at ez
            exact ⟨ccl, cdd, vs, ccs, tf, ec, ez⟩
          · cases g3
        · cases g3
      · split at g4
        · rename_i cl cld C' csl ec
          rw [of_decide_eq_true g4] at ec
          exact ⟨cl, cld, csl, ec⟩
        · cases g4
    · cases h7
  · cases h7
end VG

set_option maxRecDepth 100000
/-! From the head's facts of an own error to its promise. -/
namespace VG
open PySem PySem.Spec PyProof.Rows L2
section
variable {P : Program} {w : World} {K : PySem.W.Frag} {mg : Str → Option Value} {base : Heap}
theorem errC_of {nm : Str} {flds ps : List Str} {st : Stmt} {rest : List Stmt} {p0 p1 p2 p3 p4 p5 : Pos} {j k n : Nat} {z : Str} {self : Arg} {fC : Addr} {fdC : FuncData} (ini : fnI K (IniD.at_ ⟨nm, st⟩) = IniD.val ⟨nm, st⟩) (I : IniOk K nm P.main.file) (E : IniC K (He.ga K nm) nm) (glob : mg nm = some (.ref (He.ga K nm)))
    (hev : SupEv p0 p1 p2 p3 p4 j z) (hb : defBody st = superInit p0 p1 p2 p3 p4 p5 j z :: rest) (S : IniScope ps (defScope st)) (hself : ((defArgs st).posonlyargs ++ (defArgs st).args).head? = some self) (hp0 : ps[0]? = some self.arg)
    (GC : FnOk P w K mg base CX0 k fC fdC ["value"] (spCopy K n)) (hg : (defScope st).names.lookup ("copied" : Str) = some .globalImplicit) (mC : mg "copied" = some (.ref fC)) (hk : PySem.W.keepIn K (.ref fC) = true) (bC : L2.Binds K fdC ["value"] [])
    (hps : ∀ x ∈ ps, (x == ("__debug__" : Str)) = false ∧ (x == ("__classdict__" : Str)) = false) (hf : ∀ f ∈ flds, f ∈ exFields) (few : flds.length ≤ 100) (hl : ps.length = flds.length + 1) (hs : IniSts ps (slots 1 flds) rest) (sup : mg "super" = none) (top : (P.main.scope.names.lookup ("super" : Str)).isSome = false)
    (binds : ∀ (q : Str) (kV doc pm cdv ct : Value) (an : Option Addr) (cc : Addr) (us : List Value), us.length = ps.length → bindArgs (PySem.W.ksFn "__init__" q (defArgs st) (defBody st) (defScope st) .none kV doc pm an cdv ct cc) ⟨us, []⟩ = pure (ps.zip us)) :
    ErrC P w K mg base nm flds (He.ga K nm) (k + 1) n := by
  obtain ⟨oc, od, fd, osl, cda, cc, x, e, e1, e2, e3, g2, g3, g4⟩ := I.fn
  have e0 : K.lookup (He.fAd K (IniD.at_ ⟨nm, st⟩)) = some ⟨oc, od, .func fd, osl⟩ := e
  unfold fnI at ini
  rw [e0] at ini
  obtain ⟨f1, f2, f3, f4, f5, f6, f7, f8, f9, f10, f11, f12, f13, f14, f15⟩ := fd
  have ini : (some (f1, f2, f3, f4, f5, f6, f7.map (·.1), f15) : FnI) = (some (("__init__" : Str), IniD.qual ⟨nm, st⟩, defArgs st, FuncBody.stmts (defBody st), defScope st, mainGlobals, [("__class__" : Str)], builtinsNs) : FnI) := ini
  simp only [Option.some.injEq, Prod.mk.injEq] at ini
  obtain ⟨rfl, rfl, rfl, rfl, rfl, rfl, ec, rfl⟩ := ini
  have e1 : f13 = .ref cda := e1
  have e2 : f7 = [(x, cc)] := e2
  have e3 : f8 = .none := e3
  subst e1 e2 e3
  have ex : x = "__class__" := by
    have z := List.cons.inj ec
    exact z.1
  subst ex
  obtain ⟨name, q, N, bs, bm, sn, sub, ab, col, dd, k0, k1, k2, k3, k5, lC, hbm⟩ := E.oex.cls
  have T : IniTxt P K mg "ValueError" "ValueError.__init__" "ValueError.__new__" PySem.HandSPX.veTail (He.ga K nm) (He.ma K (He.ga K nm) "__init__") cc cda (IniD.qual ⟨nm, st⟩) (defArgs st) (superInit p0 p1 p2 p3 p4 p5 j z :: rest) (defScope st)
      (PySem.W.ksFn "__init__" (IniD.qual ⟨nm, st⟩) (defArgs st) (defBody st) (defScope st) .none f9 f10 f11 f12 (.ref cda) f14 cc) := by
    refine ⟨PySem.W.kxs_ValueError, F.excBase_ValueError, ⟨oc, od, .none, f9, f10, f11, f12, f14, osl, by rw [hb], e⟩, g2, g3, g4, ⟨name, q, N, bs, bm, true, sn, sub, ab, col, dd, k0, k1, k2, k3, k5, lC⟩, I.up, I.isB, I.self, I.opq, sup, top⟩
  have ok := ok_ini (n := n) (nm := nm) (l := slots 1 flds) hev T S hself hp0 E GC hg mC hk bC hps (fun p hp => ?_) hs
  · rw [hl] at ok
    exact ⟨E, glob, few, _, _, ps, I.find, I.typ, .all (fun us hus => binds _ _ _ _ _ _ _ _ us hus), ok⟩
  · have key : ∀ (l : List Str) (i : Nat), (∀ f ∈ l, f ∈ exFields) → ∀ p ∈ slots i l, p.1 ∈ exFields := by
      intro l
      induction l with
      | nil => intro i _ p hp; cases hp
      | cons f l ih =>
        intro i h p hp
        rcases List.mem_cons.mp hp with e | hp
        · rw [e]
          exact h f List.mem_cons_self
        · exact ih (i + 1) (fun g hg => h g (List.mem_cons_of_mem _ hg)) p hp
    exact key flds 1 hf p hp
end
end VG

set_option maxRecDepth 100000
/-! Plain calls of defs with a star parameter. -/
namespace VG
open PySem PySem.Spec PyProof.Rows L2
section
variable {X : Cx} {CX : CXT} {k : Nat} {f : Addr} {sp : Sp} {E : XK} {x : Str} {p pos : Pos} {e : Expr} {es : List Expr} {t : TA}
theorem pe_callR (F : FnR X.prog X.w X.K X.mg X.base CX k f sp) (hr : Room k X.A) (hk : PySem.W.keepIn X.K (.ref f) = true) (hg : Gl X x) (hm : X.mg x = some (.ref f)) (hx : Passes CX X E) (ha : PA X (e :: es) t) (n1 : (x == ("__debug__" : Str)) = false := by decide)
    (n2 : starEach (e :: es) X.env = (false, eval e X.env) :: starEach es X.env := by rfl) (n3 : (backTo pos (starEach es X.env)).any (·.1) = false := by rfl) : PE X (.Call (.Name x p) (e :: es) [] pos) (fun σ H Q => t σ H fun vs H1 => sp vs H1 Q E) :=
  ⟨fun pins s σ H Q I q0 => wpAny_Call_Name_kw (ld_glob I hg hm (PySem.W.callWith_K (h₀ := X.base) I.ok.mod.kin hk (thn (ha.run pos pins s σ H _ I q0) fun us s1 ⟨vs, H1, I1, r, q⟩ => ⟨I1.kIn, wpAny_call (codeAny_mono (run_fnR F hr hx I1 r q) fun res s' z => z)⟩) n2 n3) n1)⟩
theorem pe_callR0 (F : FnR X.prog X.w X.K X.mg X.base CX k f sp) (hr : Room k X.A) (hk : PySem.W.keepIn X.K (.ref f) = true) (hg : Gl X x) (hm : X.mg x = some (.ref f)) (hx : Passes CX X E) (n1 : (x == ("__debug__" : Str)) = false := by decide) :
    PE X (.Call (.Name x p) [] [] pos) (fun σ H Q => sp [] H Q E) :=
  ⟨fun pins s σ H Q I q0 => wpAny_Call_Name_kw (ld_glob I hg hm (PySem.W.callWith_K0 I.kIn hk (wpAny_call (codeAny_mono (run_fnR (us := []) F hr hx I .nil q0) fun res s' z => z))) n1)⟩
end
end VG

set_option maxRecDepth 100000
namespace Lw
open PySem L2 VG
def topS (i : Nat) : Stmt := PySem.Challenge.pw_missingmiles_k03_sums_and_products_of_ra.main.body.getD i (.Pass ⟨0, 0, 0, 0⟩)
abbrev s_copied : Stmt := topS 2
abbrev s_MilesError : Stmt := topS 4
abbrev s_Missing : Stmt := topS 5
abbrev s_InvalidRatio : Stmt := topS 6
abbrev s_NothingLeft : Stmt := topS 7
abbrev s__is_whole : Stmt := topS 11
abbrev s_is_ratio : Stmt := topS 12
abbrev s__lowest : Stmt := topS 13
abbrev s_ratio_of : Stmt := topS 14
abbrev s_added : Stmt := topS 15
abbrev s_multiplied : Stmt := topS 16
abbrev s_is_less : Stmt := topS 17
abbrev sSource : Stmt := topS 19
abbrev sDraw : Stmt := topS 20
abbrev sOf : Stmt := topS 21
abbrev sSame : Stmt := topS 22
abbrev s__law_fields : Stmt := topS 23
abbrev s__law_ask : Stmt := topS 24
abbrev s__law_low : Stmt := topS 25
abbrev s__law_plus : Stmt := topS 26
abbrev s__law_times : Stmt := topS 27
abbrev s__law_less : Stmt := topS 28
abbrev s__law_total : Stmt := topS 29
abbrev s__law_wide : Stmt := topS 30
abbrev s__law_bare : Stmt := topS 31
abbrev s__law_sum_and_product : Stmt := topS 32
abbrev sLaw : Stmt := topS 33
/-! ### the source of draws -/
def srcL (q : Addr) (i c seed n : Int) : List V := [.ref q, .int i, .int c, .int seed, .int n]
structure Src (H : Hp) (p q : Addr) (cells : List Int) : Prop where
  ex : ∃ i c seed n : Int, H p = some (.lst (srcL q i c seed n)) ∧ 0 ≤ i ∧ 0 ≤ c
  cs : H q = some (.lst (cells.map V.int))
  few : cells.length ≤ 63
  ne : p ≠ q
/-- all but p is as it was -/
def But (p : Addr) (H H' : Hp) : Prop := ∀ b, b ≠ p → H' b = H b
theorem But.refl (p : Addr) (H : Hp) : But p H H := fun _ _ => rfl
theorem But.trans {p : Addr} {H H1 H2 : Hp} (a : But p H H1) (b : But p H1 H2) : But p H H2 := fun c n => (b c n).trans (a c n)
theorem But.upd {p : Addr} {H : Hp} {o : HO} : But p H (upd H p o) := fun _ n => upd_ne n
def spSource (K : PySem.W.Frag) : Sp := fun vs H Q _ => ∃ (a : Addr) (ns : List Int), vs = [.ref a] ∧ SqL K H a (ns.map V.int) ∧ ns.length ≤ 63 ∧
  ∀ (p q : Addr) (H' : Hp), H p = none → H q = none → Same H H' → Src H' p q ns → Q (.ref p) H'
def spDraw : Sp := fun vs H Q _ => ∃ (p q : Addr) (cells : List Int) (m : Int), vs = [.ref p, .int m] ∧ Src H p q cells ∧ 0 < m ∧ m < 2 ^ 100 ∧
  ∀ (r : Int) (H' : Hp), 0 ≤ r → r < m → Src H' p q cells → But p H H' → Q (.int r) H'
/-- what the law's helpers ask of the names of the top -/
structure Nm (mg : Str → Option Value) : Prop where
  int : mg "int" = none
  len : mg "len" = none
  list : mg "list" = none
  repr : mg "repr" = none
section
variable {P : Program} {w : World} {K : PySem.W.Frag} {mg : Str → Option Value} {base : Heap}
theorem scSource : FnScope ["_law_script", "_law_seed", "_law_cell"] ["_law_script"] (defScope sSource) := ⟨rfl, rfl, rfl, by decide +kernel, rfl, by decide +kernel, by decide +kernel⟩
theorem scDraw : FnScope ["_law_src", "_law_many", "_law_cell", "_law_digit", "_law_root", "_law_grown"] ["_law_src", "_law_many"] (defScope sDraw) := ⟨rfl, rfl, rfl, by decide +kernel, rfl, by decide +kernel, by decide +kernel⟩
theorem ok_draw {f : Addr} {fd : FuncData} (F : Fun K "_law_draw" "_law_draw" sDraw f fd) (T : Nm mg) : FnOk P w K mg base CX0 1 f fd ["_law_src", "_law_many"] spDraw := by
  refine F.ok scDraw (fun vs H Q E h => ?_) (fun cdv A outer s H vs Q E hr h => ?_)
  · obtain ⟨p, q, cells, m, rfl, _⟩ := h
    rfl
  · obtain ⟨p, q, cells, m, rfl, ⟨⟨i, c, seed, n, hp, hi, hc⟩, hq, hfew, hne⟩, hm0, hm1, k⟩ := h
    have nd := scDraw.nd
    refine ⟨_, C8.pss_cut (ps_if (PW.pt (pw_and (pt_cmpR op_lt (pe_ix ix_list (pv 0) pe_int fun _ _ => rfl) (pv 1) (nomark _))
          (pw_and1 (pt_cmpR op_lt (pe_ix ix_list (pv 0) pe_int fun _ _ => rfl) (pe_callB call_len_seq (by rfl) T.len PySem.boot_len (pa_cons (pe_ix ix_list (pv 0) pe_int fun _ _ => rfl) pa_nil)) (nomark _)))))
        (pss_cons (ps_set (i := 2) nd rfl (Or.inl rfl) (pe_ix ix_list (pe_ix ix_list (pv 0) pe_int fun _ _ => rfl) (pe_ix ix_list (pv 0) pe_int fun _ _ => rfl) fun _ _ => rfl))
        (pss_cons (ps_asg (pe_op op_add (pe_ix ix_list (pv 0) pe_int fun _ _ => rfl) pe_int) (pg_sub (pv 0) pe_int set_list))
        (pss_cons (ps_asg (pe_op op_mod (pe_callTy call_int1 (by rfl) T.int (by decide +kernel) (pa_cons (pe_op op_add (pe_op op_add (pe_op op_mul (pe_ix ix_list (pv 0) pe_int fun _ _ => rfl) pe_int)
            (pe_op op_mod (pe_callTy call_int1 (by rfl) T.int (by decide +kernel) (pa_cons (pv 2) pa_nil)) pe_int)) pe_int) pa_nil)) pe_int) (pg_sub (pv 0) pe_int set_list))
        (pss_one (ps_asg (pe_ifExp (pt_cmpR op_ge (pv 2) (pe_op op_pow pe_int pe_int) (nomark _)) (pv 2) pe_int) (pg_sub (pv 0) pe_int set_list)))))) pss_nil)
      (pss_cons (ps_if (pt_cmpR op_ge (pe_ix ix_list (pv 0) pe_int fun _ _ => rfl) (pv 1) (nomark _))
        (pss_cons (ps_set (i := 3) nd rfl (Or.inl rfl) (pe_op op_mod (pe_callTy call_int1 (by rfl) T.int (by decide +kernel) (pa_cons (pe_ix ix_list (pv 0) pe_int fun _ _ => rfl) pa_nil)) (pv 1)))
        (pss_cons (ps_asg (pe_op op_fdivW (pe_ix ix_list (pv 0) pe_int fun _ _ => rfl) (pv 1)) (pg_sub (pv 0) pe_int set_list))
        (pss_one (ps_ret (pv 3))))) pss_nil)
      (pss_cons (ps_asg (pe_op op_add (pe_ix ix_list (pv 0) pe_int fun _ _ => rfl) pe_int) (pg_sub (pv 0) pe_int set_list))
      (C8.pss_cut (ps_set (i := 4) nd rfl (Or.inl rfl) (pe_op op_mod (pe_callTy call_int1 (by rfl) T.int (by decide +kernel) (pa_cons (pe_op op_add (pe_ix ix_list (pv 0) pe_int fun _ _ => rfl)
          (pe_op op_mul (pe_ix ix_list (pv 0) pe_int fun _ _ => rfl) pe_int)) pa_nil)) pe_int))
      (pss_cons (ps_set (i := 5) nd rfl (Or.inl rfl) (pe_op op_mul (pe_op op_mod (pe_callTy call_int1 (by rfl) T.int (by decide +kernel) (pa_cons (pe_op op_mul (pv 4) (pv 4)) pa_nil)) pe_int)
          (pe_op op_add (pe_op op_mod (pe_callTy call_int1 (by rfl) T.int (by decide +kernel) (pa_cons (pv 4) pa_nil)) pe_int) pe_int)))
      (pss_cons (ps_asg (pe_op op_mod (pe_callTy call_int1 (by rfl) T.int (by decide +kernel) (pa_cons (pe_op op_add (pe_op op_add (pv 5) (pe_op op_mul pe_int (pv 4))) pe_int) pa_nil)) pe_int) (pg_sub (pv 0) pe_int set_list))
      (pss_one (ps_ret (pe_op op_mod (pe_callTy call_int1 (by rfl) T.int (by decide +kernel) (pa_cons (pe_op op_add (pe_op op_fdiv (pe_ix ix_list (pv 0) pe_int fun _ _ => rfl) pe_int)
          (pe_op op_mul (pe_op op_mod (pe_callTy call_int1 (by rfl) T.int (by decide +kernel) (pa_cons (pe_ix ix_list (pv 0) pe_int fun _ _ => rfl) pa_nil)) pe_int) pe_int)) pa_nil)) (pv 1))))))))), ?_⟩
    -- behind the first if the source is as it may be
    refine ⟨fun σ H1 => ∃ cell, σ = [some (.ref p), some (.int m), cell, none, none, none] ∧ Src H1 p q cells ∧ But p H H1, ?_, ?_⟩
    · refine ⟨_, rfl, _, _, _, _, rfl, rfl, SqL.of hp, rfl, _, rfl, _, _, rfl, rfl, _, rfl, ?_⟩
      refine ite2 (fun hlt => ?_) (fun _ => iteF ⟨_, rfl, ⟨⟨i, c, seed, n, hp, hi, hc⟩, hq, hfew, hne⟩, But.refl _ _⟩)
      refine ⟨_, rfl, _, _, _, _, rfl, rfl, SqL.of hp, rfl, _, rfl, _, _, _, _, rfl, rfl, SqL.of hp, rfl, q, _, rfl, .inl (SqL.of hq), _, _, rfl, rfl, _, rfl, ?_⟩
      refine ite2 (fun hlt2 => ?_) (fun _ => ⟨_, rfl, ⟨⟨i, c, seed, n, hp, hi, hc⟩, hq, hfew, hne⟩, But.refl _ _⟩)
      have hlt2 : i < ((cells.map V.int).length : Int) := of_decide_eq_true hlt2
      rw [List.length_map] at hlt2
      obtain ⟨j, rfl⟩ := Int.eq_ofNat_of_zero_le hi
      have hj : j < cells.length := by omega
      have hcell : (cells.map V.int)[j]? = some (V.int cells[j]) := by rw [List.getElem?_map, List.getElem?_eq_getElem hj]; rfl
      have hqp : ∀ {H' : Hp}, But p H H' → H' q = some (.lst (cells.map V.int)) := fun b => (b q hne.symm).trans hq
      refine ⟨_, rfl, _, _, _, _, rfl, rfl, SqL.of hp, rfl, _, rfl, _, _, _, _, rfl, rfl, SqL.of hp, rfl, q, _, _, _, rfl, rfl, SqL.of hq, atI_nat hcell, ?_⟩
      -- _law_src[1] = _law_src[1] + 1
      refine ⟨_, rfl, _, _, _, _, rfl, rfl, SqL.of hp, rfl, _, _, rfl, rfl, _, rfl, p, _, _, _, rfl, rfl, hp, rfl, ?_⟩
      -- _law_src[3] = ..
      refine ⟨_, rfl, _, _, _, _, rfl, rfl, SqL.of upd_same, rfl, _, _, rfl, rfl, .inr ⟨by decide, by decide⟩, _, rfl, .inl ⟨_, rfl, _, _, rfl, rfl, (by show (0 : Int) < 2147483323; decide), _, _, rfl, rfl, _, _, rfl, rfl, .inl ⟨_, rfl, _, _, rfl, rfl, (by show (0 : Int) < 2147483549; decide), _, rfl, p, _, _, _, rfl, rfl, upd_same, rfl, ?_⟩⟩⟩
      -- _law_src[2] = ..
      refine ⟨_, rfl, _, _, rfl, rfl, ⟨by decide, by decide, by decide⟩, _, _, rfl, rfl, _, rfl, ?_⟩
      refine ite2 (fun hge => ?_) (fun _ => ?_)
      · refine ⟨_, rfl, _, rfl, p, _, _, _, rfl, rfl, upd_same, rfl, ⟨_, rfl, ⟨⟨_, _, _, _, upd_same, by omega, ?_⟩, ?_, hfew, hne⟩, ?_⟩⟩
        · have z := of_decide_eq_true hge
          exact Int.le_trans (by decide) z
        · exact hqp (But.trans (But.trans But.upd But.upd) But.upd)
        · exact But.trans (But.trans But.upd But.upd) But.upd
      · exact ⟨_, rfl, p, _, _, _, rfl, rfl, upd_same, rfl, ⟨_, rfl, ⟨⟨_, _, _, _, upd_same, by omega, Int.le_refl _⟩, hqp (But.trans (But.trans But.upd But.upd) But.upd), hfew, hne⟩, But.trans (But.trans But.upd But.upd) But.upd⟩⟩
    · rintro σ H1 ⟨cell, rfl, ⟨⟨i, c, seed, n, hp, hi, hc⟩, hq, _, _⟩, hB⟩
      -- if _law_src[2] >= _law_many
      refine ⟨_, rfl, _, _, _, _, rfl, rfl, SqL.of hp, rfl, _, rfl, _, _, rfl, rfl, _, rfl, ?_⟩
      refine ite2 (fun _ => ?_) (fun _ => ?_)
      · refine ⟨_, rfl, _, _, _, _, rfl, rfl, SqL.of hp, rfl, .inl ⟨_, rfl, _, rfl, _, _, rfl, rfl, hm0, ?_⟩⟩
        refine ⟨_, rfl, _, _, _, _, rfl, rfl, SqL.of hp, rfl, _, rfl, _, _, rfl, rfl, wide_div hm0 (b := 100) (by omega) (by decide) (by decide), _, rfl, p, _, _, _, rfl, rfl, hp, rfl, ?_⟩
        exact ⟨_, rfl, k _ _ (Int.emod_nonneg _ (by omega)) (Int.emod_lt_of_pos _ hm0) ⟨⟨_, _, _, _, upd_same, hi, Int.ediv_nonneg hc (Int.le_of_lt hm0)⟩, (upd_ne hne.symm).trans hq, hfew, hne⟩ (But.trans hB But.upd)⟩
      · -- _law_src[4] = _law_src[4] + 1
        refine ⟨_, rfl, _, _, _, _, rfl, rfl, SqL.of hp, rfl, _, _, rfl, rfl, _, rfl, p, _, _, _, rfl, rfl, hp, rfl, ?_⟩
        -- _law_root
        refine ⟨fun σ H2 => ∃ root : Int, 0 ≤ root ∧ root < 2147483629 ∧ σ = [some (.ref p), some (.int m), cell, none, some (.int root), none] ∧ H2 = upd H1 p (.lst (srcL q i c seed (n + 1))), ?_, ?_⟩
        · refine ⟨_, rfl, _, _, _, _, rfl, rfl, SqL.of upd_same, rfl, _, rfl, _, _, _, _, rfl, rfl, SqL.of upd_same, rfl, _, _, rfl, rfl, .inr ⟨by decide, by decide⟩, _, _, rfl, rfl, .inl ⟨_, rfl, _, _, rfl, rfl, (by show (0 : Int) < 2147483629; decide), ?_⟩⟩
          exact ⟨_, Int.emod_nonneg _ (by decide), Int.emod_lt_of_pos _ (by decide), rfl, rfl⟩
        · rintro σ H2 ⟨root, r0, r1, rfl, rfl⟩
          -- _law_grown
          refine ⟨_, rfl, _, rfl, _, _, rfl, rfl, .inl ⟨by omega, by omega⟩, .inl ⟨_, rfl, _, _, rfl, rfl, (by show (0 : Int) < 2147483399; decide), ?_⟩⟩
          refine ⟨_, rfl, .inl ⟨_, rfl, _, _, rfl, rfl, (by show (0 : Int) < 39989; decide), _, _, rfl, rfl, _, _, rfl, rfl, .inl ⟨?_, ?_⟩, ?_⟩⟩
          · exact Int.lt_of_lt_of_le (by decide) (Int.emod_nonneg _ (by decide))
          · exact Int.lt_of_lt_of_le (Int.emod_lt_of_pos _ (by decide)) (by decide)
          -- _law_src[3]
          refine ⟨_, rfl, _, rfl, _, _, rfl, rfl, .inl ⟨by decide, by decide⟩, _, _, rfl, rfl, _, _, rfl, rfl, .inl ⟨_, rfl, _, _, rfl, rfl, (by show (0 : Int) < 2147483549; decide), _, rfl, p, _, _, _, rfl, rfl, upd_same, rfl, ?_⟩⟩
          -- return
          refine ⟨_, rfl, _, _, _, _, rfl, rfl, SqL.of upd_same, rfl, _, _, rfl, rfl, ⟨by decide, by decide⟩, _, rfl, _, _, _, _, rfl, rfl, SqL.of upd_same, rfl, .inl ⟨_, rfl, _, _, rfl, rfl, (by show (0 : Int) < 8521; decide), _, _, rfl, rfl, .inr ⟨by decide, by decide⟩, _, _, rfl, rfl, .inl ⟨_, rfl, _, rfl, _, _, rfl, rfl, hm0, ?_⟩⟩⟩
          exact k _ _ (Int.emod_nonneg _ (by omega)) (Int.emod_lt_of_pos _ hm0) ⟨⟨_, _, _, _, upd_same, hi, hc⟩, by rw [upd_ne hne.symm, upd_ne hne.symm]; exact hq, hfew, hne⟩ (But.trans hB (But.trans But.upd But.upd))
theorem ok_source {f : Addr} {fd : FuncData} (F : Fun K "_law_source" "_law_source" sSource f fd) (T : Nm mg) : FnOk P w K mg base CX0 1 f fd ["_law_script"] (spSource K) := by
  refine F.ok scSource (fun vs H Q E h => ?_) (fun cdv A outer s H vs Q E hr h => ?_)
  · obtain ⟨a, ns, rfl, _⟩ := h
    rfl
  · obtain ⟨a, ns, rfl, hS, hl, k⟩ := h
    have nd := scSource.nd
    have cut : cutV (ns.map V.int) none (some 63) = ns.map V.int := by
      unfold cutV HT.sIx
      rw [List.drop_zero, List.length_map]
      refine List.take_of_length_le ?_
      rw [List.length_map]
      show ns.length ≤ min 63 ns.length - 0
      omega
    refine ⟨_, pss_cons (ps_set (i := 1) nd rfl (Or.inl rfl) pe_int)
      (pss_cons (ps_for PassesOwn.never rfl (pi_list (pe_slice sl_list (pv 0) po_none (po_some pe_int))) (pg_name (i := 2) nd rfl (Or.inl rfl))
        (pss_one (ps_set (i := 1) nd rfl (Or.inl rfl) (pe_op op_mod (pe_callTy call_int1 (by rfl) T.int (by decide +kernel) (pa_cons (pe_op op_add (pe_op op_add (pe_op op_mul (pv 1) pe_int)
            (pe_op op_mod (pe_callTy call_int1 (by rfl) T.int (by decide +kernel) (pa_cons (pv 2) pa_nil)) pe_int)) pe_int) pa_nil)) pe_int))))
      (pss_one (ps_ret (pe_lst (pa_cons (pe_callTy call_list_of (by rfl) T.list (by decide +kernel) (pa_cons (pe_slice sl_list (pv 0) po_none (po_some pe_int)) pa_nil))
        (pa_cons pe_int (pa_cons pe_int (pa_cons (pv 1) (pa_cons pe_int pa_nil))))))))), ?_⟩
    refine ⟨_, rfl, _, rfl, a, _, rfl, hS, fun u hu => ?_⟩
    rw [cut]
    have sm : Same H (upd H u (.lst (ns.map V.int))) := fun b o e => by rw [upd_ne (ne_of_none e hu)]; exact e
    refine ⟨u, rfl, ⟨_, SqL.of upd_same⟩, for_list (K := K) (a := u) (xs := ns.map V.int) (fun i σ H2 => ∃ (sd : Int) (v : Option V), σ = [some (.ref a), some (.int sd), v] ∧ H2 = upd H u (.lst (ns.map V.int)))
      ⟨_, _, rfl, rfl⟩ (fun i σ H2 _ ⟨_, _, _, e⟩ => e ▸ SqL.of upd_same) ?_ ?_⟩
    · rintro i y σ H2 hi ⟨sd, v, rfl, rfl⟩
      obtain ⟨z, rfl⟩ : ∃ z, y = V.int z := by
        rw [List.getElem?_map] at hi
        obtain ⟨z, _, e⟩ := Option.map_eq_some_iff.mp hi
        exact ⟨z, e.symm⟩
      exact ⟨_, rfl, _, _, rfl, rfl, .inr ⟨by decide, by decide⟩, _, rfl, .inl ⟨_, rfl, _, _, rfl, rfl, (by show (0 : Int) < 2147483353; decide), _, _, rfl, rfl, _, _, rfl, rfl, .inl ⟨_, rfl, _, _, rfl, rfl, (by show (0 : Int) < 2147483587; decide), _, _, rfl, rfl⟩⟩⟩
    · rintro σ H2 ⟨sd, v, rfl, rfl⟩
      refine ⟨_, rfl, _, rfl, a, _, rfl, sm.seq hS, fun u2 hu2 => ?_⟩
      rw [cut]
      refine ⟨u2, _, rfl, .inl (SqL.of upd_same), fun u3 hu3 => ⟨_, rfl, by show 5 ≤ sizeLine; decide, fun p hp => ?_⟩⟩
      have n3 : u3 ≠ p := fun z => by rw [z, upd_same] at hp; cases hp
      have sm2 : Same H (upd (upd (upd H u (.lst (ns.map V.int))) u2 (.lst (ns.map V.int))) u3 (.lst (ns.map V.int))) := fun b o e => by
        rw [upd_ne (ne_of_none (by rw [upd_ne (ne_of_none (sm b o e) hu2)]; exact sm b o e) hu3), upd_ne (ne_of_none (sm b o e) hu2)]
        exact sm b o e
      have sm3 : Same H (upd (upd (upd H u (.lst (ns.map V.int))) u2 (.lst (ns.map V.int))) u3 (.lst (ns.map V.int))) := sm2
      refine k p u3 _ (sm2.free hp) ?_ (fun b o e => ?_) ⟨⟨0, 0, sd, 0, upd_same, Int.le_refl _, Int.le_refl _⟩, ?_, hl, n3.symm⟩
      · have e1 : Same H (upd (upd H u (.lst (ns.map V.int))) u2 (.lst (ns.map V.int))) := fun b o e => by
          rw [upd_ne (ne_of_none (sm b o e) hu2)]
          exact sm b o e
        exact e1.free hu3
      · rw [upd_ne (ne_of_none (sm2 b o e) hp)]
        exact sm2 b o e
      · rw [upd_ne n3, upd_same]
/-! ### one of some things; are two data shown alike -/
def spOf (K : PySem.W.Frag) : Sp := fun vs H Q _ => ∃ (p q : Addr) (cells : List Int) (sv : V), vs = [.ref p, sv] ∧ Src H p q cells ∧
  ((∃ (a : Addr) (xs : List V), sv = .ref a ∧ (∀ H', But p H H' → SqL K H' a xs ∨ SqT K H' a xs) ∧ 0 < xs.length ∧ xs.length < 1000000 ∧
      ∀ (i : Nat) (x : V) (H' : Hp), xs[i]? = some x → Src H' p q cells → But p H H' → Q x H') ∨
    ∃ z : Str, sv = .str z ∧ 0 < z.length ∧ z.length < 1000000 ∧ ∀ (c : Nat) (H' : Hp), c ∈ z.cps.toList → Src H' p q cells → But p H H' → Q (.str ⟨#[c]⟩) H')
theorem scOf : FnScope ["_law_src", "_law_some"] ["_law_src", "_law_some"] (defScope sOf) := ⟨rfl, rfl, rfl, by decide +kernel, rfl, by decide +kernel, by decide +kernel⟩
theorem big : (1000000 : Nat) ≤ sizeLine := by decide
theorem ok_of {f fD : Addr} {fd fdD : FuncData} (F : Fun K "_law_of" "_law_of" sOf f fd) (T : Nm mg) (FD : Fun K "_law_draw" "_law_draw" sDraw fD fdD) (mD : mg "_law_draw" = some (.ref fD)) (bD : Binds K fdD ["_law_src", "_law_many"] []) :
    FnOk P w K mg base CX0 2 f fd ["_law_src", "_law_some"] (spOf K) := by
  have GD : FnOk P w K mg base CX0 1 fD fdD ["_law_src", "_law_many"] spDraw := ok_draw FD T
  refine F.ok scOf (fun vs H Q E h => ?_) (fun cdv A outer s H vs Q E hr h => ?_)
  · obtain ⟨p, q, cells, sv, rfl, _⟩ := h
    rfl
  · obtain ⟨p, q, cells, sv, rfl, hS, h⟩ := h
    refine ⟨_, pss_one (ps_ret (pe_ix ix_seq (pv 1) (pe_call GD hr (by rfl) mD FD.kp bD .nil pass0 (pa_cons (pv 0) (pa_cons (pe_callB call_len (by rfl) T.len PySem.boot_len (pa_cons (pv 1) pa_nil)) pa_nil))) fun _ _ => rfl)), ?_⟩
    rcases h with ⟨a, xs, rfl, hx, h0, h1, k⟩ | ⟨z, rfl, h0, h1, k⟩
    · refine ⟨_, rfl, _, rfl, _, rfl, _, xs.length, rfl, ?_, p, q, cells, _, rfl, hS, by omega, by omega, fun r H' r0 r1 S' B' => ?_⟩
      · rcases hx H (But.refl _ _) with z | z
        · exact .inl ⟨_, z, rfl⟩
        · exact .inr ⟨_, z, rfl⟩
      · obtain ⟨j, rfl⟩ := Int.eq_ofNat_of_zero_le r0
        have hj : j < xs.length := by omega
        have e : xs[j]? = some xs[j] := List.getElem?_eq_getElem hj
        rcases hx H' B' with z | z
        · exact .inl ⟨a, xs, _, _, rfl, rfl, z, atI_nat e, k j _ H' e S' B'⟩
        · exact .inr (.inl ⟨a, xs, _, _, rfl, rfl, z, atI_nat e, k j _ H' e S' B'⟩)
    · refine ⟨_, rfl, _, rfl, _, rfl, _, z.length, rfl, ⟨Nat.le_trans (Nat.le_of_lt h1) big, rfl⟩, p, q, cells, _, rfl, hS, by omega, by omega, fun r H' r0 r1 S' B' => ?_⟩
      obtain ⟨j, rfl⟩ := Int.eq_ofNat_of_zero_le r0
      have hl : z.cps.toList.length = z.length := by simp [Str.length]
      have hj : j < z.cps.toList.length := by omega
      have e : z.cps.toList[j]? = some z.cps.toList[j] := List.getElem?_eq_getElem hj
      exact .inr (.inr ⟨z, _, _, rfl, rfl, Nat.le_trans (Nat.le_of_lt h1) big, atI_nat e, k _ H' (List.getElem_mem hj) S' B'⟩)
def spSame (K : PySem.W.Frag) : Sp := fun vs H Q _ => ∃ (x y : V) (d e : PyData), vs = [x, y] ∧ Dp K H x d ∧ Dp K H y e ∧ Sm d ∧ Sm e ∧ Q (.bl (decide (d.shown = e.shown))) H
theorem scSame : FnScope ["_law_found", "_law_due"] ["_law_found", "_law_due"] (defScope sSame) := ⟨rfl, rfl, rfl, by decide +kernel, rfl, by decide +kernel, by decide +kernel⟩
theorem ok_same {f : Addr} {fd : FuncData} (F : Fun K "_law_same" "_law_same" sSame f fd) (T : Nm mg) : FnG P w K mg base CX0 1 f fd ["_law_found", "_law_due"] (spSame K) := by
  refine okG F scSame (fun vs H Q E h => ?_) (fun cdv A outer s H vs Q E hG hr h => ?_)
  · obtain ⟨x, y, d, e, rfl, _⟩ := h
    rfl
  · obtain ⟨x, y, d, e, rfl, hx, hy, sd, se, k⟩ := h
    refine ⟨_, pss_one (ps_ret (pe_cmpR op_eq (pe_callB (call_repr hG hr.units) (by rfl) T.repr (by decide +kernel) (pa_cons (pv 0) pa_nil)) (pe_callB (call_repr hG hr.units) (by rfl) T.repr (by decide +kernel) (pa_cons (pv 1) pa_nil)) (nomark _))), ?_⟩
    refine ⟨_, rfl, _, d, rfl, hx, sd, _, rfl, _, e, rfl, hy, se, rfl, ?_⟩
    have q : decide (V.str d.shown = V.str e.shown) = decide (d.shown = e.shown) := by
      by_cases z : d.shown = e.shown
      · rw [z, decide_eq_true rfl, decide_eq_true rfl]
      · rw [decide_eq_false z, decide_eq_false fun y => z (V.str.inj y)]
    show Q (.bl (decide (V.str d.shown = V.str e.shown))) H
    rw [q]
    exact k
end
end Lw

set_option maxRecDepth 100000
namespace Lw
open PySem PySem.Spec PyProof.Rows L2 VG
open L2H (RoomH)
section
variable {P : Program} {w : World} {K : PySem.W.Frag} {mg : Str → Option Value} {base : Heap}
theorem scFields : FnScope ["_law_e"] ["_law_e"] (defScope s__law_fields) := ⟨rfl, rfl, rfl, by decide +kernel, rfl, by decide +kernel, by decide +kernel⟩
theorem ok_fields {f : Addr} {fd : FuncData} (F : Fun K "_law_fields" "_law_fields" s__law_fields f fd) : FnE P w K mg base CX0 1 f fd ["_law_e"] (spFields K) := by
  refine okE F scFields (fun p vs H Q E h => ?_) (fun cdv A outer s H vs Q E p hr h => ?_)
  · obtain ⟨rfl, _⟩ := h
    rfl
  · obtain ⟨rfl, nm, fs, ys, c, el, q⟩ := h
    have hp : p ∈ (L2H.cxH CX0 P w K mg base ["_law_e"] "_law_fields" (defScope s__law_fields) f cdv A outer s H E p).nox.pn := List.mem_cons_self
    have hu : (L2H.cxH CX0 P w K mg base ["_law_e"] "_law_fields" (defScope s__law_fields) f cdv A outer s H E p).nox.A.units + 65 < cLine := by
      have z := hr.un
      show (A.deeper _).units + 65 < cLine
      omega
    refine ⟨_, pss_cons (ps_inRet (i := 0) (ns := ["given"]) (l := ["InvalidRatio", "InvalidNumber", "InvalidName", "InvalidLayer", "InvalidPlace", "InvalidPoint", "InvalidForm", "InvalidLimit"]) hp hu (by decide) (by decide) (by decide +kernel) (pv 0) (pa_cons pe_str (pa_cons pe_str (pa_cons pe_str (pa_cons pe_str (pa_cons pe_str (pa_cons pe_str (pa_cons pe_str (pa_cons pe_str pa_nil)))))))) (pa_flds hp (pv 0) (by decide) pa_flds0))
      (pss_cons (ps_inRet (i := 0) (ns := ["at"]) (l := ["InvalidRow", "InvalidFact", "InvalidCommand"]) hp hu (by decide) (by decide) (by decide +kernel) (pv 0) (pa_cons pe_str (pa_cons pe_str (pa_cons pe_str pa_nil))) (pa_flds hp (pv 0) (by decide) pa_flds0))
      (pss_cons (ps_inRet (i := 0) (ns := ["path"]) (l := ["InvalidStep", "UnlikeEnds"]) hp hu (by decide) (by decide) (by decide +kernel) (pv 0) (pa_cons pe_str (pa_cons pe_str pa_nil)) (pa_flds hp (pv 0) (by decide) pa_flds0))
      (pss_cons (ps_inRet (i := 0) (ns := ["name"]) (l := ["DuplicateName", "UnknownName"]) hp hu (by decide) (by decide) (by decide +kernel) (pv 0) (pa_cons pe_str (pa_cons pe_str pa_nil)) (pa_flds hp (pv 0) (by decide) pa_flds0))
      (pss_cons (ps_inRet (i := 0) (ns := ["word"]) (l := ["InvalidText", "UnknownScript"]) hp hu (by decide) (by decide) (by decide +kernel) (pv 0) (pa_cons pe_str (pa_cons pe_str pa_nil)) (pa_flds hp (pv 0) (by decide) pa_flds0))
      (pss_cons (ps_eqRet (i := 0) (ns := ["layer"]) (z := "InvalidTable") hp (by decide) (pv 0) (pa_flds hp (pv 0) (by decide) pa_flds0))
      (pss_cons (ps_eqRet (i := 0) (ns := ["layer", "start", "goal"]) (z := "InvalidWay") hp (by decide) (pv 0) (pa_flds hp (pv 0) (by decide) (pa_flds hp (pv 0) (by decide) (pa_flds hp (pv 0) (by decide) pa_flds0))))
      (pss_cons (ps_eqRet (i := 0) (ns := ["limit"]) (z := "Full") hp (by decide) (pv 0) (pa_flds hp (pv 0) (by decide) pa_flds0))
      (pss_cons (ps_eqRet (i := 0) (ns := ["line"]) (z := "InvalidPage") hp (by decide) (pv 0) (pa_flds hp (pv 0) (by decide) pa_flds0))
      (pss_one (ps_endRet (i := 0) (ns := ["subject", "most"]) (z := "TooMany") hp (by decide) (pv 0) (pa_flds hp (pv 0) (by decide) (pa_flds hp (pv 0) (by decide) pa_flds0)))))))))))), ?_⟩
    unfold VG.fieldsOf at el
    refine ⟨rfl, nm, fs, c, fun e => ⟨ys, by rw [if_pos e] at el; exact el, q⟩, fun e H1 s1 => ?_⟩
    rw [if_neg (by rw [e]; exact Bool.false_ne_true)] at el
    refine ⟨rfl, nm, fs, c.same s1, fun e => ⟨ys, by rw [if_pos e] at el; exact el, fun T H' z => q T H' (s1.trans z)⟩, fun e H2 s2 => ?_⟩
    rw [if_neg (by rw [e]; exact Bool.false_ne_true)] at el
    replace s2 := s1.trans s2
    refine ⟨rfl, nm, fs, c.same s2, fun e => ⟨ys, by rw [if_pos e] at el; exact el, fun T H' z => q T H' (s2.trans z)⟩, fun e H3 s3 => ?_⟩
    rw [if_neg (by rw [e]; exact Bool.false_ne_true)] at el
    replace s3 := s2.trans s3
    refine ⟨rfl, nm, fs, c.same s3, fun e => ⟨ys, by rw [if_pos e] at el; exact el, fun T H' z => q T H' (s3.trans z)⟩, fun e H4 s4 => ?_⟩
    rw [if_neg (by rw [e]; exact Bool.false_ne_true)] at el
    replace s4 := s3.trans s4
    refine ⟨rfl, nm, fs, c.same s4, fun e => ⟨ys, by rw [if_pos e] at el; exact el, fun T H' z => q T H' (s4.trans z)⟩, fun e H5 s5 => ?_⟩
    rw [if_neg (by rw [e]; exact Bool.false_ne_true)] at el
    replace s5 := s4.trans s5
    refine ⟨rfl, nm, fs, c.same s5, fun e => ⟨ys, by rw [if_pos e] at el; exact el, fun T H' z => q T H' (s5.trans z)⟩, fun e H6 s6 => ?_⟩
    rw [if_neg (by rw [show decide (nm = "InvalidTable") = false from e]; exact Bool.false_ne_true)] at el
    replace s6 := s5.trans s6
    refine ⟨rfl, nm, fs, c.same s6, fun e => ⟨ys, by rw [if_pos e] at el; exact el, fun T H' z => q T H' (s6.trans z)⟩, fun e H7 s7 => ?_⟩
    rw [if_neg (by rw [show decide (nm = "InvalidWay") = false from e]; exact Bool.false_ne_true)] at el
    replace s7 := s6.trans s7
    refine ⟨rfl, nm, fs, c.same s7, fun e => ⟨ys, by rw [if_pos e] at el; exact el, fun T H' z => q T H' (s7.trans z)⟩, fun e H8 s8 => ?_⟩
    rw [if_neg (by rw [show decide (nm = "Full") = false from e]; exact Bool.false_ne_true)] at el
    replace s8 := s7.trans s8
    refine ⟨rfl, nm, fs, c.same s8, fun e => ⟨ys, by rw [if_pos e] at el; exact el, fun T H' z => q T H' (s8.trans z)⟩, fun e H9 s9 => ?_⟩
    rw [if_neg (by rw [show decide (nm = "InvalidPage") = false from e]; exact Bool.false_ne_true)] at el
    replace s9 := s8.trans s9
    exact ⟨rfl, nm, fs, c.same s9, ys, el, fun T H' z => q T H' (s9.trans z)⟩
end
end Lw

set_option maxRecDepth 100000
namespace Lw
open PySem PySem.Spec PyProof.Rows L2 VG
section
variable {P : Program} {w : World} {K : PySem.W.Frag} {mg : Str → Option Value} {base : Heap}
/-- what copied asks of the names of the top -/
structure NmC (mg : Str → Option Value) : Prop where
  isi : mg "isinstance" = none
  list : mg "list" = none
  tup : mg "tuple" = none
theorem scCopied : FnScope ["value", "item"] ["value"] (defScope s_copied) := ⟨rfl, rfl, rfl, by decide +kernel, rfl, by decide +kernel, by decide +kernel⟩
theorem copied_step {n k : Nat} {f : Addr} {fd : FuncData} (F : Fun K "copied" "copied" s_copied f fd) (T : NmC mg) (mC : mg "copied" = some (.ref f)) (bC : Binds K fd ["value"] []) (G : FnOk P w K mg base CX0 k f fd ["value"] (spPrev K n)) :
    FnOk P w K mg base CX0 (k + 1) f fd ["value"] (spCopy K n) := by
  refine F.ok scCopied (fun vs H Q E h => ?_) (fun cdv A outer s H vs Q E hr h => ?_)
  · obtain ⟨x, d, rfl, _⟩ := h
    rfl
  · obtain ⟨x, d, rfl, hx, hf, q⟩ := h
    have nd := scCopied.nd
    refine ⟨_, pss_cons (ps_if (pt_val (pe_callB call_isi (by rfl) T.isi (by decide +kernel) (pa_cons (pv 0) (pa_cons (pe_bltn (v := .ty "list") (by rfl) T.list (by decide +kernel) rfl) pa_nil))))
        (pss_one (ps_ret (pe_lc (own := [("item", 1)]) (g := gName 1) (tt := tYes) rfl nd (pi_list (pv 0)) (blkOk_by (own := [("item", 1)]) (N := ["value", "item"]) (sc := defScope s_copied) (by decide +kernel)) (fun _ _ _ _ _ => pg_name (i := 1) nd rfl (Or.inl rfl)) (fun _ _ _ _ _ => pts_nil)
          (fun _ _ _ _ _ => pe_call G hr (by rfl) mC F.kp bC .nil pass0 (pa_cons (pv 1) pa_nil))))) pss_nil)
      (pss_cons (ps_if (pt_val (pe_callB call_isi (by rfl) T.isi (by decide +kernel) (pa_cons (pv 0) (pa_cons (pe_bltn (v := .ty "tuple") (by rfl) T.tup (by decide +kernel) rfl) pa_nil))))
        (pss_one (ps_ret (pe_callTy call_tuple_of (by rfl) T.tup (by decide +kernel) (pa_cons (pe_lc (own := [("item", 1)]) (g := gName 1) (tt := tYes) rfl nd (pi_tup (pv 0)) (blkOk_by (own := [("item", 1)]) (N := ["value", "item"]) (sc := defScope s_copied) (by decide +kernel)) (fun _ _ _ _ _ => pg_name (i := 1) nd rfl (Or.inl rfl)) (fun _ _ _ _ _ => pts_nil)
          (fun _ _ _ _ _ => pe_call G hr (by rfl) mC F.kp bC .nil pass0 (pa_cons (pv 1) pa_nil))) pa_nil)))) pss_nil)
      (pss_one (ps_ret (pv 0)))), ?_⟩
    cases hx with
    | non => exact ⟨_, rfl, _, _, _, _, false, rfl, .ty "list", .base .non, kit_ty (by decide +kernel), _, rfl, iteF ⟨_, rfl, _, _, _, _, false, rfl, .ty "tuple", .base .non, kit_ty (by decide +kernel), _, rfl, iteF ⟨_, rfl, q _ H (Same.refl H) .non⟩⟩⟩
    | bl b => exact ⟨_, rfl, _, _, _, _, false, rfl, .ty "list", .base (.bl b), kit_ty (by decide +kernel), _, rfl, iteF ⟨_, rfl, _, _, _, _, false, rfl, .ty "tuple", .base (.bl b), kit_ty (by decide +kernel), _, rfl, iteF ⟨_, rfl, q _ H (Same.refl H) (.bl b)⟩⟩⟩
    | int i => exact ⟨_, rfl, _, _, _, _, false, rfl, .ty "list", .base (.int i), kit_ty (by decide +kernel), _, rfl, iteF ⟨_, rfl, _, _, _, _, false, rfl, .ty "tuple", .base (.int i), kit_ty (by decide +kernel), _, rfl, iteF ⟨_, rfl, q _ H (Same.refl H) (.int i)⟩⟩⟩
    | str z => exact ⟨_, rfl, _, _, _, _, false, rfl, .ty "list", .base (.str z), kit_ty (by decide +kernel), _, rfl, iteF ⟨_, rfl, _, _, _, _, false, rfl, .ty "tuple", .base (.str z), kit_ty (by decide +kernel), _, rfl, iteF ⟨_, rfl, q _ H (Same.refl H) (.str z)⟩⟩⟩
    | @lst a xs ds hs hd =>
      refine ⟨_, rfl, _, _, _, _, true, rfl, .ty "list", tyx_list hs, kit_ty (by decide +kernel), _, rfl, iteT ?_⟩
      obtain ⟨m, rfl, hw, hl⟩ : ∃ m, n = m + 1 ∧ ds.length ≤ 1000 ∧ ∀ d ∈ ds, fit m d = true := by
        cases n with
        | zero => cases hf
        | succ m =>
          obtain ⟨h1, h2⟩ := Bool.and_eq_true_iff.mp (show (decide (ds.length ≤ 1000) && ds.all (fit m)) = true from hf)
          exact ⟨m, rfl, of_decide_eq_true h1, List.all_eq_true.mp h2⟩
      refine ⟨_, rfl, a, rfl, ⟨_, hs⟩, fun D hD => lc_list (K := K) (a := a) (xs := xs) (Copying K H D ds) (Copying.start hD) (fun i G _ c => c.same.seq hs) (fun i y G hy c => ?_) (fun G c => ?_)⟩
      · obtain ⟨e, he, hye⟩ := DpAll.at' hd hy
        refine ⟨rfl, y, rfl, y, e, rfl, Dp.same c.same e y hye, hl e (List.mem_of_getElem? he), fun y' G' sm hn => ?_⟩
        obtain ⟨acc, e1, e2, e3⟩ := c.more hD he sm hn
        have lt : i < ds.length := (List.getElem?_eq_some_iff.mp he).1
        exact ⟨acc, e1, by rw [e2]; exact Nat.lt_of_lt_of_le (Nat.lt_of_lt_of_le lt hw) (by decide), e3⟩
      · rw [DpAll.len hd] at c
        obtain ⟨acc, e1, e2⟩ := c.all hD
        exact q _ G c.same (.lst (SqL.of (by rw [newer_at hD]; exact e1)) e2)
    | @tup a xs ds hs hd =>
      refine ⟨_, rfl, _, _, _, _, false, rfl, .ty "list", tyx_tup hs, kit_ty (by decide +kernel), _, rfl, iteF ⟨_, rfl, _, _, _, _, true, rfl, .ty "tuple", tyx_tup hs, kit_ty (by decide +kernel), _, rfl, iteT ?_⟩⟩
      obtain ⟨m, rfl, hw, hl⟩ : ∃ m, n = m + 1 ∧ ds.length ≤ 1000 ∧ ∀ d ∈ ds, fit m d = true := by
        cases n with
        | zero => cases hf
        | succ m =>
          obtain ⟨h1, h2⟩ := Bool.and_eq_true_iff.mp (show (decide (ds.length ≤ 1000) && ds.all (fit m)) = true from hf)
          exact ⟨m, rfl, of_decide_eq_true h1, List.all_eq_true.mp h2⟩
      refine ⟨_, rfl, a, rfl, ⟨_, hs⟩, fun D hD => lc_tup (K := K) (a := a) (xs := xs) (Copying K H D ds) (Copying.start hD) (fun i G _ c => Same.tup c.same hs) (fun i y G hy c => ?_) (fun G c => ?_)⟩
      · obtain ⟨e, he, hye⟩ := DpAll.at' hd hy
        refine ⟨rfl, y, rfl, y, e, rfl, Dp.same c.same e y hye, hl e (List.mem_of_getElem? he), fun y' G' sm hn => ?_⟩
        obtain ⟨acc, e1, e2, e3⟩ := c.more hD he sm hn
        have lt : i < ds.length := (List.getElem?_eq_some_iff.mp he).1
        exact ⟨acc, e1, by rw [e2]; exact Nat.lt_of_lt_of_le (Nat.lt_of_lt_of_le lt hw) (by decide), e3⟩
      · rw [DpAll.len hd] at c
        obtain ⟨acc, e1, e2⟩ := c.all hD
        refine ⟨D, acc, rfl, .inl ⟨SqL.of e1, fun l hl => ?_⟩⟩
        have sm := same_upd (o := .tup acc) hl
        have hl0 : H l = none := c.same.free hl
        refine q _ _ (c.same.trans sm) (.tup (SqT.of (by rw [newer_at hl0]; exact upd_same)) (DpAll.same (newer_mono (fun b z => z) fun b z o e => sm b o e) _ _ e2))
/-- copied, for data of any depth -/
theorem ok_copied {f : Addr} {fd : FuncData} (F : Fun K "copied" "copied" s_copied f fd) (T : NmC mg) (mC : mg "copied" = some (.ref f)) (bC : Binds K fd ["value"] []) : ∀ n, FnOk P w K mg base CX0 (n + 1) f fd ["value"] (spCopy K n)
  | 0 => copied_step F T mC bC ⟨fun _ _ _ _ h => False.elim h, fun _ _ _ _ _ _ _ _ _ _ _ _ _ h => False.elim h⟩
  | n + 1 => copied_step F T mC bC (ok_copied F T mC bC n)
end
end Lw

set_option maxRecDepth 100000
namespace Lw
open PySem PySem.Spec PyProof.Rows L2 VG
/-! ### the program's ratios -/
def whole : PyData → Bool
  | .int _ => true
  | _ => false
theorem whole_int {d : PyData} (h : whole d = true) : ∃ i, d = .int i := by
  cases d <;> first | exact ⟨_, rfl⟩ | cases h
def intOf : PyData → Int
  | .int i => i
  | _ => 0
def isRat : PyData → Bool
  | .tuple [d1, d2] => whole d1 && (whole d2 && (decide (1 ≤ intOf d2) && decide (Nat.gcd (intOf d1).natAbs (intOf d2).natAbs = 1)))
  | _ => false
/-- top and bottom in lowest terms -/
def low (t b : Int) : Int × Int := (t / (Nat.gcd t.natAbs b.natAbs : Int), b / (Nat.gcd t.natAbs b.natAbs : Int))
structure NmW (mg : Str → Option Value) : Prop where
  isi : mg "isinstance" = none
  int : mg "int" = none
  bool : mg "bool" = none
section
variable {P : Program} {w : World} {K : PySem.W.Frag} {mg : Str → Option Value} {base : Heap}
theorem two_of {H : Hp} {xs : List V} {ds : List PyData} (hd : DpAll K H xs ds) (h : xs.length = 2) : ∃ y1 y2 d1 d2, xs = [y1, y2] ∧ ds = [d1, d2] ∧ Dp K H y1 d1 ∧ Dp K H y2 d2 := by
  cases hd with
  | nil => cases h
  | cons h1 t =>
    cases t with
    | nil => cases h
    | cons h2 t =>
      cases t with
      | nil => exact ⟨_, _, _, _, rfl, rfl, h1, h2⟩
      | cons h3 t =>
        simp only [List.length_cons] at h
        omega
def spWhole (K : PySem.W.Frag) : Sp := fun vs H Q _ => ∃ (x : V) (d : PyData), vs = [x] ∧ Dp K H x d ∧ Q (.bl (whole d)) H
theorem scWhole : FnScope ["value"] ["value"] (defScope s__is_whole) := ⟨rfl, rfl, rfl, by decide +kernel, rfl, by decide +kernel, by decide +kernel⟩
theorem ok_whole {f : Addr} {fd : FuncData} (F : Fun K "_is_whole" "_is_whole" s__is_whole f fd) (T : NmW mg) : FnOk P w K mg base CX0 1 f fd ["value"] (spWhole K) := by
  refine F.ok scWhole (fun vs H Q E h => ?_) (fun cdv A outer s H vs Q E hr h => ?_)
  · obtain ⟨x, d, rfl, _⟩ := h
    rfl
  · obtain ⟨x, d, rfl, hx, q⟩ := h
    refine ⟨_, pss_one (ps_ret (pe_and (pe_callB call_isi (by rfl) T.isi (by decide +kernel) (pa_cons (pv 0) (pa_cons (pe_bltn (v := .ty "int") (by rfl) T.int (by decide +kernel) rfl) pa_nil)))
      (pe_one (pe_not (pe_callB call_isi (by rfl) T.isi (by decide +kernel) (pa_cons (pv 0) (pa_cons (pe_bltn (v := .ty "bool") (by rfl) T.bool (by decide +kernel) rfl) pa_nil))))))), ?_⟩
    cases hx with
    | non => exact ⟨_, rfl, _, _, _, _, false, rfl, .ty "int", .base .non, kit_ty (by decide +kernel), _, rfl, iteF q⟩
    | bl b => exact ⟨_, rfl, _, _, _, _, true, rfl, .ty "int", .base (.bl b), kit_ty (by decide +kernel), _, rfl, iteT ⟨_, rfl, _, _, _, _, true, rfl, .ty "bool", .base (.bl b), kit_ty (by decide +kernel), _, rfl, q⟩⟩
    | int i => exact ⟨_, rfl, _, _, _, _, true, rfl, .ty "int", .base (.int i), kit_ty (by decide +kernel), _, rfl, iteT ⟨_, rfl, _, _, _, _, false, rfl, .ty "bool", .base (.int i), kit_ty (by decide +kernel), _, rfl, q⟩⟩
    | str z => exact ⟨_, rfl, _, _, _, _, false, rfl, .ty "int", .base (.str z), kit_ty (by decide +kernel), _, rfl, iteF q⟩
    | lst hs hd => exact ⟨_, rfl, _, _, _, _, false, rfl, .ty "int", tyx_list hs, kit_ty (by decide +kernel), _, rfl, iteF q⟩
    | tup hs hd => exact ⟨_, rfl, _, _, _, _, false, rfl, .ty "int", tyx_tup hs, kit_ty (by decide +kernel), _, rfl, iteF q⟩
def spIsRat (K : PySem.W.Frag) : Sp := fun vs H Q _ => ∃ (x : V) (d : PyData), vs = [x] ∧ Dp K H x d ∧ Q (.bl (isRat d)) H
theorem scIsRat : FnScope ["value", "top", "bottom"] ["value"] (defScope s_is_ratio) := ⟨rfl, rfl, rfl, by decide +kernel, rfl, by decide +kernel, by decide +kernel⟩
structure NmR (mg : Str → Option Value) : Prop where
  w : NmW mg
  tup : mg "tuple" = none
  len : mg "len" = none
  gcd : mg "gcd" = some (.builtin "math.gcd")
theorem ok_isRat {f fW : Addr} {fd fdW : FuncData} (F : Fun K "is_ratio" "is_ratio" s_is_ratio f fd) (FW : Fun K "_is_whole" "_is_whole" s__is_whole fW fdW) (T : NmR mg) (mW : mg "_is_whole" = some (.ref fW)) (bW : Binds K fdW ["value"] []) :
    FnOk P w K mg base CX0 2 f fd ["value"] (spIsRat K) := by
  refine F.ok scIsRat (fun vs H Q E h => ?_) (fun cdv A outer s H vs Q E hr h => ?_)
  · obtain ⟨x, d, rfl, _⟩ := h
    rfl
  · obtain ⟨x, d, rfl, hx, q⟩ := h
    have nd := scIsRat.nd
    have GW := ok_whole (P := P) (w := w) (base := base) FW T.w
    refine ⟨_, pss_cons (ps_if (PW.pt (pw_or (pt_not (pt_val (pe_callB call_isi (by rfl) T.w.isi (by decide +kernel) (pa_cons (pv 0) (pa_cons (pe_bltn (v := .ty "tuple") (by rfl) T.tup (by decide +kernel) rfl) pa_nil)))))
        (pw_or1 (pt_cmpR op_ne (pe_callB call_len_seq (by rfl) T.len PySem.boot_len (pa_cons (pv 0) pa_nil)) pe_int (nomark _))))) (pss_one (ps_ret pe_bl)) pss_nil)
      (pss_cons (ps_asg (pv 0) (pg_tup (by rfl) (pgs_cons (pg_name (i := 1) nd rfl (Or.inl rfl)) (pgs_cons (pg_name (i := 2) nd rfl (Or.inl rfl)) pgs_nil))))
      (pss_one (ps_ret (pe_and (pe_call GW hr (by rfl) mW FW.kp bW .nil pass0 (pa_cons (pv 1) pa_nil)) (pe_and (pe_call GW hr (by rfl) mW FW.kp bW .nil pass0 (pa_cons (pv 2) pa_nil)) (pe_and (pe_cmpR op_ge (pv 2) pe_int (nomark _))
        (pe_one (pe_cmpR op_eq (pe_callBfun cr_gcd (by rfl) T.gcd (pa_cons (pv 1) (pa_cons (pv 2) pa_nil))) pe_int (nomark _))))))))), ?_⟩
    cases hx with
    | non => exact ⟨_, rfl, _, _, _, _, false, rfl, .ty "tuple", .base .non, kit_ty (by decide +kernel), _, rfl, iteT (iteT q)⟩
    | bl b => exact ⟨_, rfl, _, _, _, _, false, rfl, .ty "tuple", .base (.bl b), kit_ty (by decide +kernel), _, rfl, iteT (iteT q)⟩
    | int i => exact ⟨_, rfl, _, _, _, _, false, rfl, .ty "tuple", .base (.int i), kit_ty (by decide +kernel), _, rfl, iteT (iteT q)⟩
    | str z => exact ⟨_, rfl, _, _, _, _, false, rfl, .ty "tuple", .base (.str z), kit_ty (by decide +kernel), _, rfl, iteT (iteT q)⟩
    | lst hs hd => exact ⟨_, rfl, _, _, _, _, false, rfl, .ty "tuple", tyx_list hs, kit_ty (by decide +kernel), _, rfl, iteT (iteT q)⟩
    | @tup a xs ds hs hd =>
      refine ⟨_, rfl, _, _, _, _, true, rfl, .ty "tuple", tyx_tup hs, kit_ty (by decide +kernel), _, rfl, iteF ?_⟩
      refine ⟨_, rfl, a, xs, rfl, .inr hs, rfl, _, rfl, ?_⟩
      have hlen := DpAll.len hd
      refine ite2 (fun h => ?_) (fun h => ?_)
      · have n2 : ds.length ≠ 2 := fun z => by
          rw [hlen, z] at h
          exact absurd h (by decide)
        have e : isRat (.tuple ds) = false := by
          match ds, n2 with
          | [], _ => rfl
          | [_], _ => rfl
          | [_, _], n => exact absurd rfl n
          | _ :: _ :: _ :: _, _ => rfl
        rw [e] at q
        exact q
      · have n2 : xs.length = 2 := by
          by_cases z : xs.length = 2
          · exact z
          · have w : decide (V.int (xs.length : Int) = V.int 2) = false := decide_eq_false fun y => z (by have := V.int.inj y; omega)
            rw [w] at h
            exact absurd rfl h
        obtain ⟨y1, y2, d1, d2, rfl, rfl, h1, h2⟩ := two_of hd n2
        have q : Q (.bl (isRat (.tuple [d1, d2]))) H := q
        clear h
        refine ⟨_, rfl, a, _, rfl, hs, rfl, ?_⟩
        have q : Q (.bl (whole d1 && (whole d2 && (decide (1 ≤ intOf d2) && decide (Nat.gcd (intOf d1).natAbs (intOf d2).natAbs = 1))))) H := q
        refine ⟨y1, _, rfl, y2, _, rfl, rfl, ?_⟩
        refine ⟨_, rfl, y1, d1, rfl, h1, _, rfl, ?_⟩
        cases e1 : whole d1 with
        | false =>
          rw [e1] at q
          exact iteF q
        | true =>
          rw [e1] at q
          refine iteT ⟨_, rfl, y2, d2, rfl, h2, _, rfl, ?_⟩
          cases e2 : whole d2 with
          | false =>
            rw [e2] at q
            exact iteF q
          | true =>
            rw [e2] at q
            obtain ⟨i1, rfl⟩ := whole_int e1
            obtain ⟨i2, rfl⟩ := whole_int e2
            cases h1
            cases h2
            refine iteT ⟨_, rfl, _, _, rfl, rfl, _, rfl, ?_⟩
            have q : Q (.bl (decide (1 ≤ i2) && decide (Nat.gcd i1.natAbs i2.natAbs = 1))) H := q
            cases e3 : decide (1 ≤ i2) with
            | false =>
              rw [e3] at q
              exact iteF q
            | true =>
              rw [e3] at q
              refine iteT ⟨_, rfl, _, rfl, i1, i2, rfl, rfl, ?_⟩
              have q : Q (.bl (decide (Nat.gcd i1.natAbs i2.natAbs = 1))) H := q
              have e : decide (V.int ((Nat.gcd i1.natAbs i2.natAbs : Nat) : Int) = V.int 1) = decide (Nat.gcd i1.natAbs i2.natAbs = 1) := by
                by_cases z : Nat.gcd i1.natAbs i2.natAbs = 1
                · rw [decide_eq_true z]
                  exact decide_eq_true (show V.int ((Nat.gcd i1.natAbs i2.natAbs : Nat) : Int) = V.int 1 by rw [z]; rfl)
                · rw [decide_eq_false z, decide_eq_false fun y => z (by have := V.int.inj y; omega)]
              rw [← e] at q
              exact q
end
end Lw

set_option maxRecDepth 100000
namespace Lw
open PySem PySem.Spec PyProof.Rows L2 VG
section
variable {P : Program} {w : World} {K : PySem.W.Frag} {mg : Str → Option Value} {base : Heap}
def spLowest : Sp := fun vs H Q _ => ∃ (t b : Int), vs = [.int t, .int b] ∧ 0 < b ∧ b.natAbs < 2 ^ 8000 ∧ ∀ T, H T = none → Q (.ref T) (upd H T (.tup [.int (low t b).1, .int (low t b).2]))
theorem scLowest : FnScope ["top", "bottom", "shared"] ["top", "bottom"] (defScope s__lowest) := ⟨rfl, rfl, rfl, by decide +kernel, rfl, by decide +kernel, by decide +kernel⟩
theorem gcd_fits {t b : Int} (h : 0 < b) (hb : b.natAbs < 2 ^ 8000) : CDivW t (Nat.gcd t.natAbs b.natAbs : Nat) ∧ CDivW b (Nat.gcd t.natAbs b.natAbs : Nat) := by
  have h0 : 0 < b.natAbs := by omega
  have g0 : 0 < Nat.gcd t.natAbs b.natAbs := Nat.gcd_pos_of_pos_right _ h0
  have g1 : Nat.gcd t.natAbs b.natAbs < 2 ^ 8000 := Nat.lt_of_le_of_lt (Nat.gcd_le_right _ h0) hb
  have c : ∀ i : Int, CDivW i (Nat.gcd t.natAbs b.natAbs : Nat) := fun i => wide_div (b := 8000) (by omega) (by rw [Int.natAbs_natCast]; exact g1) (by decide) (by decide)
  exact ⟨c t, c b⟩
theorem ok_lowest {f : Addr} {fd : FuncData} (F : Fun K "_lowest" "_lowest" s__lowest f fd) (gg : mg "gcd" = some (.builtin "math.gcd")) : FnOk P w K mg base CX0 1 f fd ["top", "bottom"] spLowest := by
  refine F.ok scLowest (fun vs H Q E h => ?_) (fun cdv A outer s H vs Q E hr h => ?_)
  · obtain ⟨t, b, rfl, _⟩ := h
    rfl
  · obtain ⟨t, b, rfl, hb, hs, q⟩ := h
    have nd := scLowest.nd
    refine ⟨_, pss_cons (ps_set (i := 2) nd rfl (Or.inl rfl) (pe_callBfun cr_gcd (by rfl) gg (pa_cons (pv 0) (pa_cons (pv 1) pa_nil))))
      (pss_one (ps_ret (pe_tup (pa_cons (pe_op op_fdivW (pv 0) (pv 2)) (pa_cons (pe_op op_fdivW (pv 1) (pv 2)) pa_nil))))), ?_⟩
    obtain ⟨c1, c2⟩ := gcd_fits (t := t) hb hs
    refine ⟨_, rfl, _, rfl, t, b, rfl, ?_⟩
    refine ⟨_, rfl, _, rfl, _, _, rfl, rfl, c1, _, rfl, _, rfl, _, _, rfl, rfl, c2, small_line (by show 2 ≤ 1000; decide), fun T hT => q T hT⟩
/-- ratio_of(x) -/
def spRatioOf (K : PySem.W.Frag) (C : Addr) (n : Nat) : Sp := fun vs H Q E => ∃ (x : V) (d : PyData), vs = [x] ∧ Dp K H x d ∧ fit n d = true ∧ (∀ i, d = .int i → ∀ T, H T = none → Q (.ref T) (upd H T (.tup [.int i, .int 1]))) ∧ (isRat d = true → Q x H) ∧
  (whole d = false → isRat d = false → ∀ (dd : Addr) (H' : Hp), Same H H' → ErrD K H' dd [("code", .str "InvalidRatio"), ("given", d)] → E (.ref C) (some dd) H')
theorem scRatioOf : FnScope ["value"] ["value"] (defScope s_ratio_of) := ⟨rfl, rfl, rfl, by decide +kernel, rfl, by decide +kernel, by decide +kernel⟩
theorem ok_ratioOf {f fW fR C : Addr} {fd fdW fdR : FuncData} {k n : Nat} (F : Fun K "ratio_of" "ratio_of" s_ratio_of f fd) (FW : Fun K "_is_whole" "_is_whole" s__is_whole fW fdW) (FR : Fun K "is_ratio" "is_ratio" s_is_ratio fR fdR) (T : NmR mg)
    (mW : mg "_is_whole" = some (.ref fW)) (bW : Binds K fdW ["value"] []) (mR : mg "is_ratio" = some (.ref fR)) (bR : Binds K fdR ["value"] []) (X : ErrC P w K mg base "InvalidRatio" ["given"] C k n) (hk : 1 ≤ k) :
    FnOk P w K mg base (L2.CX P w) (k + 2) f fd ["value"] (spRatioOf K C n) := by
  refine F.okX scRatioOf (fun vs H Q E h => ?_) (fun cdv A outer s H vs Q E hr h => ?_)
  · obtain ⟨x, d, rfl, _⟩ := h
    rfl
  · obtain ⟨x, d, rfl, hx, hf, q1, q2, q3⟩ := h
    refine ⟨_, pss_cons (ps_if (pt_val (pe_call (ok_whole FW T.w) (hr.mono (by omega)) (by rfl) mW FW.kp bW .nil pass0 (pa_cons (pv 0) pa_nil))) (pss_one (ps_ret (pe_tup (pa_cons (pv 0) (pa_cons pe_int pa_nil))))) pss_nil)
      (pss_cons (ps_if (pt_not (pt_val (pe_call (ok_isRat FR FW T mW bW) (hr.mono (by omega)) (by rfl) mR FR.kp bR .nil pass0 (pa_cons (pv 0) pa_nil)))) (pss_one (ps_err X rfl (takes_of rfl rfl rfl rfl) hr (by rfl) (pa_cons (pv 0) pa_nil))) pss_nil)
      (pss_one (ps_ret (pv 0)))), ?_⟩
    refine ⟨_, rfl, x, d, rfl, hx, _, rfl, ?_⟩
    cases e1 : whole d with
    | true =>
      obtain ⟨i, rfl⟩ := whole_int e1
      cases hx
      exact iteT ⟨_, rfl, small_line (by show 2 ≤ 1000; decide), fun T hT => q1 i rfl T hT⟩
    | false =>
      refine iteF ⟨_, rfl, x, d, rfl, hx, _, rfl, ?_⟩
      cases e2 : isRat d with
      | true => exact iteF ⟨_, rfl, q2 e2⟩
      | false =>
        refine iteT ⟨_, rfl, mk_err (ds := [d]) rfl rfl (by decide) (.cons hx .nil) (fun d' hd' => ?_) fun dd H' sm er => q3 e1 e2 dd H' sm er⟩
        obtain rfl := List.mem_singleton.mp hd'
        exact hf
end
end Lw

set_option maxRecDepth 100000
set_option linter.unusedVariables false
namespace Lw
open PySem PySem.Spec PyProof.Rows L2 VG
theorem fn_passes {P : Program} {w : World} {K : PySem.W.Frag} {mg : Str → Option Value} {base : Heap} {N : List Str} {q : Str} {sc : Scope} {f : Addr} {cd : Value} {A : Around} {outer : List Env} {s : Shared} {H : Hp} {E : XK} : Passes (L2.CX P w) (cxOf (L2.CX P w) P w K mg base N q sc f cd A outer s H E) E :=
  passes_call (W := fun cls d _ H => E cls d H) (takes_of rfl rfl rfl rfl) fun _ _ _ _ h => h
/-- the ratio that some data are -/
def ratD : PyData → Int × Int
  | .int i => (i, 1)
  | .tuple [a, b] => (intOf a, intOf b)
  | _ => (0, 1)
def okR (d : PyData) : Bool := whole d || isRat d
theorem isRat_form {d : PyData} (h : isRat d = true) : ∃ t b : Int, d = .tuple [.int t, .int b] ∧ 1 ≤ b := by
  cases d with
  | tuple ds =>
    match ds, h with
    | [a, b], h =>
      have h : (whole a && (whole b && (decide (1 ≤ intOf b) && decide (Nat.gcd (intOf a).natAbs (intOf b).natAbs = 1)))) = true := h
      simp only [Bool.and_eq_true, decide_eq_true_eq] at h
      obtain ⟨h1, h2, h3, _⟩ := h
      obtain ⟨t, rfl⟩ := whole_int h1
      obtain ⟨c, rfl⟩ := whole_int h2
      exact ⟨t, c, rfl, h3⟩
    | [], h => cases h
    | [_], h => cases h
    | _ :: _ :: _ :: _, h => cases h
  | _ => cases h
section
variable {K : PySem.W.Frag} {C : Addr} {n : Nat} {H : Hp} {x : V} {d : PyData} {Q : VK} {E : XK}
theorem rof_read (hx : Dp K H x d) (hf : fit n d = true) (k : okR d = true → ∀ (T : Addr) (H' : Hp), Same H H' → SqT K H' T [.int (ratD d).1, .int (ratD d).2] → Q (.ref T) H')
    (e : okR d = false → ∀ (dd : Addr) (H' : Hp), Same H H' → ErrD K H' dd [("code", .str "InvalidRatio"), ("given", d)] → E (.ref C) (some dd) H') : spRatioOf K C n [x] H Q E := by
  refine ⟨x, d, rfl, hx, hf, fun i hi T hT => ?_, fun hr => ?_, fun h1 h2 => e (by unfold okR; rw [h1, h2]; rfl)⟩
  · subst hi
    exact k rfl T _ (same_upd hT) (SqT.of upd_same)
  · obtain ⟨t, b, rfl, _⟩ := isRat_form hr
    have ok : okR (.tuple [.int t, .int b]) = true := by
      unfold okR
      rw [hr, Bool.or_true]
    cases hx with
    | tup hs hd =>
      cases hd with
      | cons h1 t1 =>
        cases t1 with
        | cons h2 t2 =>
          cases t2
          cases h1
          cases h2
          exact k ok _ H (Same.refl H) hs
end
section
variable {P : Program} {w : World} {K : PySem.W.Frag} {mg : Str → Option Value} {base : Heap}
/-- ratio_of, told by okR -/
def spRat2 (K : PySem.W.Frag) (C : Addr) (n : Nat) : Sp := fun vs H Q E => ∃ (x : V) (d : PyData), vs = [x] ∧ Dp K H x d ∧ fit n d = true ∧ (okR d = true → ∀ (T : Addr) (H' : Hp), Same H H' → SqT K H' T [.int (ratD d).1, .int (ratD d).2] → Q (.ref T) H') ∧
  (okR d = false → ∀ (dd : Addr) (H' : Hp), Same H H' → ErrD K H' dd [("code", .str "InvalidRatio"), ("given", d)] → E (.ref C) (some dd) H')
theorem ok_rat2 {CX : CXT} {k n : Nat} {f C : Addr} {fd : FuncData} {ps : List Str} (G : FnOk P w K mg base CX k f fd ps (spRatioOf K C n)) : FnOk P w K mg base CX k f fd ps (spRat2 K C n) :=
  G.imp fun vs H Q E ⟨x, d, e, hx, hf, k, er⟩ => by
    subst e
    exact rof_read hx hf k er
/-- the numbers of some data are below 2 ^ n -/
def smaller (n : Nat) (d : PyData) : Prop := (ratD d).1.natAbs < 2 ^ n ∧ (ratD d).2.natAbs < 2 ^ n
def spLess (K : PySem.W.Frag) (C : Addr) (n : Nat) : Sp := fun vs H Q E => ∃ (x y : V) (d e : PyData), vs = [x, y] ∧ Dp K H x d ∧ Dp K H y e ∧ fit n d = true ∧ fit n e = true ∧ smaller 1000 d ∧ smaller 1000 e ∧
  (okR d = true → okR e = true → ∀ H', Same H H' → Q (.bl (decide ((ratD d).1 * (ratD e).2 < (ratD e).1 * (ratD d).2))) H') ∧
  (∀ z, (if okR d = false then some d else if okR e = false then some e else none) = some z → ∀ (dd : Addr) (H' : Hp), Same H H' → ErrD K H' dd [("code", .str "InvalidRatio"), ("given", z)] → E (.ref C) (some dd) H')
theorem scLess : FnScope ["one", "other", "top", "bottom", "other_top", "other_bottom"] ["one", "other"] (defScope s_is_less) := ⟨rfl, rfl, rfl, by decide +kernel, rfl, by decide +kernel, by decide +kernel⟩
theorem wide_mul {i j : Int} {a b : Nat} (ha : i.natAbs < 2 ^ a) (hb : j.natAbs < 2 ^ b) (h1 : 0 < a) (h2 : 0 < b) (h : a + b ≤ 900000) : CMulW i j := by
  have e1 := PySem.Flt.log2_lt_of h1 ha
  have e2 := PySem.Flt.log2_lt_of h2 hb
  show i.natAbs.log2 + j.natAbs.log2 < 1000000
  omega
theorem ok_less {f fT C : Addr} {fd fdT : FuncData} {k n : Nat} (F : Fun K "is_less" "is_less" s_is_less f fd) (GT : FnOk P w K mg base (L2.CX P w) k fT fdT ["value"] (spRat2 K C n)) (mT : mg "ratio_of" = some (.ref fT)) (kT : PySem.W.keepIn K (.ref fT) = true) (bT : Binds K fdT ["value"] []) :
    FnOk P w K mg base (L2.CX P w) (k + 1) f fd ["one", "other"] (spLess K C n) := by
  refine F.okX scLess (fun vs H Q E h => ?_) (fun cdv A outer s H vs Q E hr h => ?_)
  · obtain ⟨x, y, d, e, rfl, _⟩ := h
    rfl
  · obtain ⟨x, y, d, e, rfl, hx, hy, fx, fy, ⟨s1, s2⟩, ⟨s3, s4⟩, q1, q2⟩ := h
    have nd := scLess.nd
    refine ⟨_, pss_cons (ps_asg (pe_call (E := E) GT hr (by rfl) mT kT bT .nil fn_passes (pa_cons (pv 0) pa_nil)) (pg_tup (by rfl) (pgs_cons (pg_name (i := 2) nd rfl (Or.inl rfl)) (pgs_cons (pg_name (i := 3) nd rfl (Or.inl rfl)) pgs_nil))))
      (pss_cons (ps_asg (pe_call (E := E) GT hr (by rfl) mT kT bT .nil fn_passes (pa_cons (pv 1) pa_nil)) (pg_tup (by rfl) (pgs_cons (pg_name (i := 4) nd rfl (Or.inl rfl)) (pgs_cons (pg_name (i := 5) nd rfl (Or.inl rfl)) pgs_nil))))
      (pss_one (ps_ret (pe_cmpR op_lt (pe_op op_mulW (pv 2) (pv 5)) (pe_op op_mulW (pv 4) (pv 3)) (nomark _))))), ?_⟩
    refine ⟨_, rfl, x, d, rfl, hx, fx, fun o1 T1 H1 m1 t1 => ?_, fun o1 dd H1 m1 er => q2 d (by rw [if_pos o1]) dd H1 m1 er⟩
    refine ⟨T1, _, rfl, t1, rfl, _, _, rfl, _, _, rfl, rfl, ?_⟩
    refine ⟨_, rfl, y, e, rfl, Dp.same m1 _ _ hy, fy, fun o2 T2 H2 m2 t2 => ?_, fun o2 dd H2 m2 er => q2 e (by rw [if_neg (by rw [o1]; decide), if_pos o2]) dd H2 (m1.trans m2) er⟩
    refine ⟨T2, _, rfl, t2, rfl, _, _, rfl, _, _, rfl, rfl, ?_⟩
    exact ⟨_, rfl, _, rfl, _, _, rfl, rfl, wide_mul s1 s4 (by decide) (by decide) (by decide), _, rfl, _, rfl, _, _, rfl, rfl, wide_mul s3 s2 (by decide) (by decide) (by decide), _, _, rfl, rfl, q1 o1 o2 H2 (m1.trans m2)⟩
end
end Lw

set_option maxRecDepth 100000
set_option linter.unusedVariables false
namespace Lw
open PySem PySem.Spec PyProof.Rows L2 VG
/-! ### sums -/
def addS (s : Int × Int) (d : PyData) : Int × Int := low (s.1 * (ratD d).2 + (ratD d).1 * s.2) (s.2 * (ratD d).2)
def mulS (s : Int × Int) (d : PyData) : Int × Int := low (s.1 * (ratD d).1) (s.2 * (ratD d).2)
def firstBad (ds : List PyData) : Option PyData := ds.find? fun d => !okR d
theorem ratD_pos {d : PyData} (h : okR d = true) : 0 < (ratD d).2 := by
  unfold okR at h
  rcases Bool.or_eq_true_iff.mp h with h | h
  · obtain ⟨i, rfl⟩ := whole_int h
    show (0 : Int) < 1
    decide
  · obtain ⟨t, b, rfl, hb⟩ := isRat_form h
    show 0 < b
    omega
theorem low_pos {t b : Int} (h : 0 < b) : 0 < (low t b).2 := by
  have hg : 0 < Nat.gcd t.natAbs b.natAbs := Nat.gcd_pos_of_pos_right _ (by omega)
  have hd : (Nat.gcd t.natAbs b.natAbs : Int) ∣ b := Int.ofNat_dvd_left.mpr (Nat.gcd_dvd_right _ _)
  show 0 < b / (Nat.gcd t.natAbs b.natAbs : Int)
  generalize Nat.gcd t.natAbs b.natAbs = g at hg hd ⊢
  exact Int.ediv_pos_of_pos_of_dvd h (by omega) hd
theorem low_abs {t b : Int} : (low t b).1.natAbs ≤ t.natAbs ∧ (low t b).2.natAbs ≤ b.natAbs := ⟨Int.natAbs_ediv_le_natAbs t _, Int.natAbs_ediv_le_natAbs b _⟩
/-- a sum's numbers behind i turns -/
structure Sum (i : Nat) (s : Int × Int) : Prop where
  a : s.1.natAbs < 2 ^ (61 * i + 1)
  b : s.2.natAbs < 2 ^ (61 * i + 1)
  pos : 0 < s.2
theorem mul_lt {i j : Int} {a b : Nat} (h1 : i.natAbs < 2 ^ a) (h2 : j.natAbs < 2 ^ b) : (i * j).natAbs < 2 ^ (a + b) := wide_lt h1 h2
theorem add_raw {i : Nat} {s : Int × Int} {d : PyData} (h : Sum i s) (hd : smaller 60 d) (ok : okR d = true) : (s.1 * (ratD d).2 + (ratD d).1 * s.2).natAbs < 2 ^ (61 * (i + 1) + 1) ∧ (s.2 * (ratD d).2).natAbs < 2 ^ (61 * (i + 1) + 1) ∧ 0 < s.2 * (ratD d).2 := by
  have e1 := mul_lt h.a hd.2
  have e2 := mul_lt hd.1 h.b
  have e3 := mul_lt h.b hd.2
  rw [Nat.add_comm 60] at e2
  have p : (2 : Nat) ^ (61 * (i + 1) + 1) = 2 * 2 ^ (61 * i + 1 + 60) := by
    rw [show 61 * (i + 1) + 1 = (61 * i + 1 + 60) + 1 by omega, Nat.pow_succ, Nat.mul_comm]
  rw [p]
  have z := Int.natAbs_add_le (s.1 * (ratD d).2) ((ratD d).1 * s.2)
  generalize (2 : Nat) ^ (61 * i + 1 + 60) = A at *
  exact ⟨by omega, by omega, Int.mul_pos h.pos (ratD_pos ok)⟩
theorem Sum.add {i : Nat} {s : Int × Int} {d : PyData} (h : Sum i s) (hd : smaller 60 d) (ok : okR d = true) : Sum (i + 1) (addS s d) := by
  obtain ⟨r1, r2, r3⟩ := add_raw h hd ok
  exact ⟨Nat.lt_of_le_of_lt low_abs.1 r1, Nat.lt_of_le_of_lt low_abs.2 r2, low_pos r3⟩
theorem mul_raw {i : Nat} {s : Int × Int} {d : PyData} (h : Sum i s) (hd : smaller 60 d) (ok : okR d = true) : (s.1 * (ratD d).1).natAbs < 2 ^ (61 * (i + 1) + 1) ∧ (s.2 * (ratD d).2).natAbs < 2 ^ (61 * (i + 1) + 1) ∧ 0 < s.2 * (ratD d).2 := by
  have e1 := mul_lt h.a hd.1
  have e3 := mul_lt h.b hd.2
  have p : (2 : Nat) ^ (61 * i + 1 + 60) ≤ 2 ^ (61 * (i + 1) + 1) := Nat.pow_le_pow_right (by decide) (by omega)
  exact ⟨Nat.lt_of_lt_of_le e1 p, Nat.lt_of_lt_of_le e3 p, Int.mul_pos h.pos (ratD_pos ok)⟩
theorem Sum.mul {i : Nat} {s : Int × Int} {d : PyData} (h : Sum i s) (hd : smaller 60 d) (ok : okR d = true) : Sum (i + 1) (mulS s d) := by
  obtain ⟨r1, r2, r3⟩ := mul_raw h hd ok
  exact ⟨Nat.lt_of_le_of_lt low_abs.1 r1, Nat.lt_of_le_of_lt low_abs.2 r2, low_pos r3⟩
end Lw

set_option maxRecDepth 100000
set_option linter.unusedVariables false
namespace Lw
open PySem PySem.Spec PyProof.Rows L2 VG
section
variable {P : Program} {w : World} {K : PySem.W.Frag} {mg : Str → Option Value} {base : Heap}
/-- the fold of some data by step, from z: what the def does with the tuple at p -/
def spFold (K : PySem.W.Frag) (C : Addr) (n : Nat) (step : Int × Int → PyData → Int × Int) (z : Int × Int) : Sp := fun vs H Q E => ∃ (p : Addr) (xs : List V) (ds : List PyData), vs = [.ref p] ∧ SqT K H p xs ∧ DpAll K H xs ds ∧ (∀ d ∈ ds, fit n d = true ∧ smaller 60 d) ∧ ds.length ≤ 50 ∧
  ((∀ d ∈ ds, okR d = true) → ∀ (T : Addr) (H' : Hp), Same H H' → SqT K H' T [.int (ds.foldl step z).1, .int (ds.foldl step z).2] → Q (.ref T) H') ∧
  (∀ b, firstBad ds = some b → ∀ (dd : Addr) (H' : Hp), Same H H' → ErrD K H' dd [("code", .str "InvalidRatio"), ("given", b)] → E (.ref C) (some dd) H')
theorem scAdded : FnScope ["values", "total", "value", "top", "bottom"] ["values"] (defScope s_added) := ⟨rfl, rfl, rfl, by decide +kernel, rfl, by decide +kernel, by decide +kernel⟩
theorem first_at {ds : List PyData} {i : Nat} {d : PyData} (h : ds[i]? = some d) (ok : ∀ e ∈ ds.take i, okR e = true) (bad : okR d = false) : firstBad ds = some d := by
  have e : ds = ds.take i ++ d :: ds.drop (i + 1) := by
    obtain ⟨hi, rfl⟩ := List.getElem?_eq_some_iff.mp h
    rw [List.getElem_cons_drop hi, List.take_append_drop]
  unfold firstBad
  rw [e, List.find?_append]
  have z : (ds.take i).find? (fun d => !okR d) = none := List.find?_eq_none.mpr fun x hx => by rw [ok x hx]; decide
  rw [z]
  simp [bad]
theorem size_fits8 {i : Nat} (h : i ≤ 50) {x : Nat} (hx : x < 2 ^ (61 * i + 1)) : x < 2 ^ 8000 := Nat.lt_of_lt_of_le hx (Nat.pow_le_pow_right (by decide) (by omega))
theorem ok_added {f fT fL C Z : Addr} {fd fdT fdL : FuncData} {k n : Nat} (F : Fun K "added" "added" s_added f fd) (GT : FnOk P w K mg base (L2.CX P w) (k + 1) fT fdT ["value"] (spRat2 K C n)) (mT : mg "ratio_of" = some (.ref fT)) (kT : PySem.W.keepIn K (.ref fT) = true) (bT : Binds K fdT ["value"] [])
    (GL : FnOk P w K mg base CX0 1 fL fdL ["top", "bottom"] spLowest) (mL : mg "_lowest" = some (.ref fL)) (kL : PySem.W.keepIn K (.ref fL) = true) (bL : Binds K fdL ["top", "bottom"] []) (mZ : mg "ZERO" = some (.ref Z)) (hZ : ∀ H, SqT K H Z [.int 0, .int 1]) :
    FnR P w K mg base (L2.CX P w) (k + 2) f (fun vs H Q E => ∃ ws rest, vs = ws ++ rest ∧ ws.length = ([] : List Str).length ∧ rest.length ≤ sizeLine ∧ ∀ p, H p = Option.none → spFold K C n addS (0, 1) (ws ++ [V.ref p]) (upd H p (.tup rest)) Q E) := by
  obtain ⟨oc, od, kV, doc, pm, an, cdv, ct, osl, rfl, lk, hcd⟩ := F.ex
  refine StX.fn_star (ps := []) (pv := "values") (N := ["values", "total", "value", "top", "bottom"]) lk hcd scAdded StX.cxUp (fun us rest hl => ?_) (fun A outer s H vs Q E hr h => ?_)
  · match us, rest, hl with
    | [], [], _ => rfl
    | [], r :: rs, _ => rfl
  · obtain ⟨p, xs, ds, rfl, hp, hd, hf, h50, q1, q2⟩ := h
    have nd := scAdded.nd
    have hr1 : Room 1 _ := hr.mono (by omega)
    refine ⟨_, pss_cons (ps_set (i := 1) nd rfl (Or.inl rfl) (pe_glob (v := .ref Z) (by rfl) mZ rfl))
      (pss_cons (ps_for (passes_of rfl) rfl (pi_tup (pv 0)) (pg_name (i := 2) nd rfl (Or.inl rfl))
        (pss_cons (ps_asg (pe_call (E := E) GT hr (by rfl) mT kT bT .nil fn_passes (pa_cons (pv 2) pa_nil)) (pg_tup (by rfl) (pgs_cons (pg_name (i := 3) nd rfl (Or.inl rfl)) (pgs_cons (pg_name (i := 4) nd rfl (Or.inl rfl)) pgs_nil))))
        (pss_one (ps_set (i := 1) nd rfl (Or.inl rfl) (pe_call GL hr1 (by rfl) mL kL bL .nil pass0 (pa_cons (pe_op op_add (pe_op op_mulW (pe_ix ix_tup (pv 1) pe_int fun _ _ => rfl) (pv 4)) (pe_op op_mulW (pv 3) (pe_ix ix_tup (pv 1) pe_int fun _ _ => rfl)))
          (pa_cons (pe_op op_mulW (pe_ix ix_tup (pv 1) pe_int fun _ _ => rfl) (pv 4)) pa_nil)))))))
      (pss_one (ps_ret (pv 1)))), ?_⟩
    refine ⟨_, rfl, p, rfl, ⟨xs, hp⟩, for_tup (K := K) (a := p) (xs := xs) (fun i σ G => ∃ (T : Addr) (o2 o3 o4 : Option V), σ = [some (.ref p), some (.ref T), o2, o3, o4] ∧ Same H G ∧ SqT K G T [.int ((ds.take i).foldl addS (0, 1)).1, .int ((ds.take i).foldl addS (0, 1)).2] ∧ Sum i ((ds.take i).foldl addS (0, 1)) ∧ ∀ d ∈ ds.take i, okR d = true)
      ⟨Z, _, _, _, rfl, Same.refl H, hZ H, (⟨by decide, by decide, by decide⟩ : Sum 0 (0, 1)), fun d hd => by cases hd⟩ (fun i σ G _ ⟨_, _, _, _, _, sm, _⟩ => Same.tup sm hp) ?_ ?_⟩
    · rintro i v σ G hv ⟨T, o2, o3, o4, rfl, sm, hT, hS, hok⟩
      obtain ⟨d, hdi, hvd⟩ := DpAll.at' hd hv
      obtain ⟨ff, sd⟩ := hf d (List.mem_of_getElem? hdi)
      have hi : i < ds.length := (List.getElem?_eq_some_iff.mp hdi).1
      have et : ds.take (i + 1) = ds.take i ++ [d] := by
        rw [List.take_add_one, hdi]
        rfl
      refine ⟨_, rfl, v, d, rfl, Dp.same sm _ _ hvd, ff, fun o1 T1 G1 m1 t1 => ?_, fun o1 dd G1 m1 er => q2 d (first_at hdi hok o1) dd G1 (sm.trans m1) er⟩
      refine ⟨T1, _, rfl, t1, rfl, _, _, rfl, _, _, rfl, rfl, ?_⟩
      have hT1 := Same.tup m1 hT
      generalize hs : (ds.take i).foldl addS (0, 1) = st at *
      obtain ⟨r1, r2, r3⟩ := add_raw hS sd o1
      have c1 : CMulW st.1 (ratD d).2 := wide_mul hS.a sd.2 (by omega) (by decide) (by omega)
      have c2 : CMulW (ratD d).1 st.2 := wide_mul sd.1 hS.b (by decide) (by omega) (by omega)
      have c3 : CMulW st.2 (ratD d).2 := wide_mul hS.b sd.2 (by omega) (by decide) (by omega)
      refine ⟨_, rfl, _, _, _, _, rfl, rfl, hT1, rfl, _, rfl, _, _, rfl, rfl, c1, ?_⟩
      refine ⟨_, rfl, _, rfl, _, _, _, _, rfl, rfl, hT1, rfl, _, _, rfl, rfl, c2, _, _, rfl, rfl, ?_⟩
      refine ⟨_, rfl, _, _, _, _, rfl, rfl, hT1, rfl, _, rfl, _, _, rfl, rfl, c3, ?_⟩
      refine ⟨_, _, rfl, r3, size_fits8 (by omega) r2, fun T2 h2 => ?_⟩
      refine ⟨T2, _, _, _, rfl, (sm.trans m1).trans (same_upd h2), ?_, ?_, ?_⟩
      · rw [et, List.foldl_append, hs]
        exact SqT.of upd_same
      · rw [et, List.foldl_append, hs]
        exact hS.add sd o1
      · rw [et]
        intro e he
        rcases List.mem_append.mp he with he | he
        · exact hok e he
        · rw [List.mem_singleton.mp he]
          exact o1
    · rintro σ G ⟨T, o2, o3, o4, rfl, sm, hT, hS, hok⟩
      rw [DpAll.len hd, List.take_length] at hT hok
      exact ⟨_, rfl, q1 hok T G sm hT⟩
theorem scMult : FnScope ["values", "product", "value", "top", "bottom"] ["values"] (defScope s_multiplied) := ⟨rfl, rfl, rfl, by decide +kernel, rfl, by decide +kernel, by decide +kernel⟩
theorem ok_multiplied {f fT fL C Z : Addr} {fd fdT fdL : FuncData} {k n : Nat} (F : Fun K "multiplied" "multiplied" s_multiplied f fd) (GT : FnOk P w K mg base (L2.CX P w) (k + 1) fT fdT ["value"] (spRat2 K C n)) (mT : mg "ratio_of" = some (.ref fT)) (kT : PySem.W.keepIn K (.ref fT) = true) (bT : Binds K fdT ["value"] [])
    (GL : FnOk P w K mg base CX0 1 fL fdL ["top", "bottom"] spLowest) (mL : mg "_lowest" = some (.ref fL)) (kL : PySem.W.keepIn K (.ref fL) = true) (bL : Binds K fdL ["top", "bottom"] []) (mZ : mg "ONE" = some (.ref Z)) (hZ : ∀ H, SqT K H Z [.int 1, .int 1]) :
    FnR P w K mg base (L2.CX P w) (k + 2) f (fun vs H Q E => ∃ ws rest, vs = ws ++ rest ∧ ws.length = ([] : List Str).length ∧ rest.length ≤ sizeLine ∧ ∀ p, H p = Option.none → spFold K C n mulS (1, 1) (ws ++ [V.ref p]) (upd H p (.tup rest)) Q E) := by
  obtain ⟨oc, od, kV, doc, pm, an, cdv, ct, osl, rfl, lk, hcd⟩ := F.ex
  refine StX.fn_star (ps := []) (pv := "values") (N := ["values", "product", "value", "top", "bottom"]) lk hcd scMult StX.cxUp (fun us rest hl => ?_) (fun A outer s H vs Q E hr h => ?_)
  · match us, rest, hl with
    | [], [], _ => rfl
    | [], r :: rs, _ => rfl
  · obtain ⟨p, xs, ds, rfl, hp, hd, hf, h50, q1, q2⟩ := h
    have nd := scMult.nd
    have hr1 : Room 1 _ := hr.mono (by omega)
    refine ⟨_, pss_cons (ps_set (i := 1) nd rfl (Or.inl rfl) (pe_glob (v := .ref Z) (by rfl) mZ rfl))
      (pss_cons (ps_for (passes_of rfl) rfl (pi_tup (pv 0)) (pg_name (i := 2) nd rfl (Or.inl rfl))
        (pss_cons (ps_asg (pe_call (E := E) GT hr (by rfl) mT kT bT .nil fn_passes (pa_cons (pv 2) pa_nil)) (pg_tup (by rfl) (pgs_cons (pg_name (i := 3) nd rfl (Or.inl rfl)) (pgs_cons (pg_name (i := 4) nd rfl (Or.inl rfl)) pgs_nil))))
        (pss_one (ps_set (i := 1) nd rfl (Or.inl rfl) (pe_call GL hr1 (by rfl) mL kL bL .nil pass0 (pa_cons (pe_op op_mulW (pe_ix ix_tup (pv 1) pe_int fun _ _ => rfl) (pv 3))
          (pa_cons (pe_op op_mulW (pe_ix ix_tup (pv 1) pe_int fun _ _ => rfl) (pv 4)) pa_nil)))))))
      (pss_one (ps_ret (pv 1)))), ?_⟩
    refine ⟨_, rfl, p, rfl, ⟨xs, hp⟩, for_tup (K := K) (a := p) (xs := xs) (fun i σ G => ∃ (T : Addr) (o2 o3 o4 : Option V), σ = [some (.ref p), some (.ref T), o2, o3, o4] ∧ Same H G ∧ SqT K G T [.int ((ds.take i).foldl mulS (1, 1)).1, .int ((ds.take i).foldl mulS (1, 1)).2] ∧ Sum i ((ds.take i).foldl mulS (1, 1)) ∧ ∀ d ∈ ds.take i, okR d = true)
      ⟨Z, _, _, _, rfl, Same.refl H, hZ H, (⟨by decide, by decide, by decide⟩ : Sum 0 (1, 1)), fun d hd => by cases hd⟩ (fun i σ G _ ⟨_, _, _, _, _, sm, _⟩ => Same.tup sm hp) ?_ ?_⟩
    · rintro i v σ G hv ⟨T, o2, o3, o4, rfl, sm, hT, hS, hok⟩
      obtain ⟨d, hdi, hvd⟩ := DpAll.at' hd hv
      obtain ⟨ff, sd⟩ := hf d (List.mem_of_getElem? hdi)
      have hi : i < ds.length := (List.getElem?_eq_some_iff.mp hdi).1
      have et : ds.take (i + 1) = ds.take i ++ [d] := by
        rw [List.take_add_one, hdi]
        rfl
      refine ⟨_, rfl, v, d, rfl, Dp.same sm _ _ hvd, ff, fun o1 T1 G1 m1 t1 => ?_, fun o1 dd G1 m1 er => q2 d (first_at hdi hok o1) dd G1 (sm.trans m1) er⟩
      refine ⟨T1, _, rfl, t1, rfl, _, _, rfl, _, _, rfl, rfl, ?_⟩
      have hT1 := Same.tup m1 hT
      generalize hs : (ds.take i).foldl mulS (1, 1) = st at *
      obtain ⟨r1, r2, r3⟩ := mul_raw hS sd o1
      have c1 : CMulW st.1 (ratD d).1 := wide_mul hS.a sd.1 (by omega) (by decide) (by omega)
      have c3 : CMulW st.2 (ratD d).2 := wide_mul hS.b sd.2 (by omega) (by decide) (by omega)
      refine ⟨_, rfl, _, _, _, _, rfl, rfl, hT1, rfl, _, rfl, _, _, rfl, rfl, c1, ?_⟩
      refine ⟨_, rfl, _, _, _, _, rfl, rfl, hT1, rfl, _, rfl, _, _, rfl, rfl, c3, ?_⟩
      refine ⟨_, _, rfl, r3, size_fits8 (by omega) r2, fun T2 h2 => ?_⟩
      refine ⟨T2, _, _, _, rfl, (sm.trans m1).trans (same_upd h2), ?_, ?_, ?_⟩
      · rw [et, List.foldl_append, hs]
        exact SqT.of upd_same
      · rw [et, List.foldl_append, hs]
        exact hS.mul sd o1
      · rw [et]
        intro e he
        rcases List.mem_append.mp he with he | he
        · exact hok e he
        · rw [List.mem_singleton.mp he]
          exact o1
    · rintro σ G ⟨T, o2, o3, o4, rfl, sm, hT, hS, hok⟩
      rw [DpAll.len hd, List.take_length] at hT hok
      exact ⟨_, rfl, q1 hok T G sm hT⟩
end
end Lw

set_option maxRecDepth 100000
namespace Lw
open PySem PySem.Spec PyProof.Rows L2 VG
section
variable {P : Program} {w : World} {K : PySem.W.Frag} {mg : Str → Option Value} {base : Heap}
/-- the law's own lowest terms, by Euclid -/
theorem scLow : FnScope ["_law_top", "_law_bottom", "_law_one_z", "_law_other_z"] ["_law_top", "_law_bottom"] (defScope s__law_low) := ⟨rfl, rfl, rfl, by decide +kernel, rfl, by decide +kernel, by decide +kernel⟩
theorem gcd_step {a b : Int} (ha : 0 ≤ a) (hb : 0 < b) : Nat.gcd b.natAbs (a % b).natAbs = Nat.gcd a.natAbs b.natAbs := by
  have e : (a % b).natAbs = a.natAbs % b.natAbs := by
    obtain ⟨m, rfl⟩ := Int.eq_ofNat_of_zero_le ha
    obtain ⟨n, rfl⟩ := Int.eq_ofNat_of_zero_le (Int.le_of_lt hb)
    rfl
  rw [e, Nat.gcd_comm a.natAbs b.natAbs, Nat.gcd_rec b.natAbs a.natAbs, Nat.gcd_comm]
theorem ok_low {f : Addr} {fd : FuncData} (F : Fun K "_law_low" "_law_low" s__law_low f fd) (mi : mg "int" = none) (ma : mg "abs" = none) : FnOk P w K mg base CX0 1 f fd ["_law_top", "_law_bottom"] spLowest := by
  refine F.ok scLow (fun vs H Q E h => ?_) (fun cdv A outer s H vs Q E hr h => ?_)
  · obtain ⟨t, b, rfl, _⟩ := h
    rfl
  · obtain ⟨t, b, rfl, hb, hs, q⟩ := h
    have nd := scLow.nd
    refine ⟨_, pss_cons (ps_par (i := 2) (j := 3) (by rfl) nd rfl rfl (by decide) rfl rfl (pa_cons (pe_callB call_abs (by rfl) ma (by decide +kernel) (pa_cons (pv 0) pa_nil)) (pa_cons (pv 1) pa_nil)) (by rfl))
      (pss_cons (ps_while PassesOwn.never (pt_cmpR op_gt (pv 3) pe_int (nomark _))
        (pss_one (ps_par (i := 2) (j := 3) (by rfl) nd rfl rfl (by decide) rfl rfl (pa_cons (pv 3) (pa_cons (pe_op op_mod (pe_callTy call_int1 (by rfl) mi (by decide +kernel) (pa_cons (pv 2) pa_nil)) (pv 3)) pa_nil)) (by rfl))))
      (pss_one (ps_ret (pe_tup (pa_cons (pe_op op_fdivW (pv 0) (pv 2)) (pa_cons (pe_op op_fdivW (pv 1) (pv 2)) pa_nil)))))), ?_⟩
    have ab : (if t < 0 then -t else t) = (t.natAbs : Int) := by
      by_cases z : t < 0
      · rw [if_pos z]; omega
      · rw [if_neg z]; omega
    refine ⟨_, rfl, t, rfl, _, rfl, _, _, rfl, ?_⟩
    refine while_by (fun σ G => G = H ∧ ∃ x y : Int, σ = [some (.int t), some (.int b), some (.int x), some (.int y)] ∧ 0 ≤ x ∧ 0 ≤ y ∧ Nat.gcd x.natAbs y.natAbs = Nat.gcd t.natAbs b.natAbs)
      (fun σ _ => match σ with | [_, _, _, some (.int y)] => y.natAbs | _ => 0) ⟨rfl, _, _, rfl, by rw [ab]; omega, by omega, by rw [ab]; rfl⟩ ?_ ?_
    · rintro σ G ⟨rfl, x, y, rfl, hx, hy, hg⟩
      refine ⟨_, rfl, _, _, rfl, rfl, _, rfl, ?_⟩
      refine ite2 (fun hlt => ?_) (fun hge => ?_)
      · have hlt : (0 : Int) < y := of_decide_eq_true hlt
        refine ⟨_, rfl, _, rfl, .inl ⟨_, rfl, _, rfl, _, _, rfl, rfl, hlt, _, _, rfl, ⟨rfl, y, x % y, rfl, hy, Int.emod_nonneg _ (by omega), (gcd_step hx hlt).trans hg⟩, ?_⟩⟩
        show (x % y).natAbs < y.natAbs
        have h1 := Int.emod_lt_of_pos x hlt
        have h2 := Int.emod_nonneg x (show y ≠ 0 by omega)
        omega
      · have hy0 : y = 0 := by
          have z : ¬ (0 : Int) < y := fun z => hge (decide_eq_true z)
          omega
        subst hy0
        have e : x = (Nat.gcd t.natAbs b.natAbs : Nat) := by
          rw [← hg, show (0 : Int).natAbs = 0 from rfl, Nat.gcd_zero_right]
          omega
        obtain ⟨c1, c2⟩ := gcd_fits (t := t) hb hs
        subst e
        refine ⟨_, rfl, _, rfl, _, _, rfl, rfl, c1, _, rfl, _, rfl, _, _, rfl, rfl, c2, small_line (by show 2 ≤ 1000; decide), fun T hT => q T hT⟩
    · rintro σ G Q1 Q2 hq ⟨v, e1, i, j, e2, e3, k, e4, z⟩
      exact ⟨v, e1, i, j, e2, e3, k, e4, hq _ _ z⟩
/-- a pair of numbers in a tuple -/
def PairAt (K : PySem.W.Frag) (H : Hp) (v : V) (s : Int × Int) : Prop := ∃ T, v = .ref T ∧ SqT K H T [.int s.1, .int s.2]
theorem PairAt.same {H H' : Hp} {v : V} {s : Int × Int} (e : Same H H') (h : PairAt K H v s) : PairAt K H' v s := by
  obtain ⟨T, h1, h2⟩ := h
  exact ⟨T, h1, Same.tup e h2⟩
def addP (s t : Int × Int) : Int × Int := low (s.1 * t.2 + t.1 * s.2) (s.2 * t.2)
def mulP (s t : Int × Int) : Int × Int := low (s.1 * t.1) (s.2 * t.2)
/-- plus, times of two pairs -/
def spPair (K : PySem.W.Frag) (g : Int × Int → Int × Int → Int × Int) : Sp := fun vs H Q _ => ∃ (x y : V) (s t : Int × Int), vs = [x, y] ∧ PairAt K H x s ∧ PairAt K H y t ∧ (s.1.natAbs < 2 ^ 2000 ∧ s.2.natAbs < 2 ^ 2000 ∧ 0 < s.2) ∧ (t.1.natAbs < 2 ^ 2000 ∧ t.2.natAbs < 2 ^ 2000 ∧ 0 < t.2) ∧
  ∀ (T : Addr) (H' : Hp), Same H H' → H' T = some (.tup [.int (g s t).1, .int (g s t).2]) → Q (.ref T) H'
theorem scPlus : FnScope ["_law_one_z", "_law_other_z"] ["_law_one_z", "_law_other_z"] (defScope s__law_plus) := ⟨rfl, rfl, rfl, by decide +kernel, rfl, by decide +kernel, by decide +kernel⟩
theorem scTimes : FnScope ["_law_one_z", "_law_other_z"] ["_law_one_z", "_law_other_z"] (defScope s__law_times) := ⟨rfl, rfl, rfl, by decide +kernel, rfl, by decide +kernel, by decide +kernel⟩
theorem scLess2 : FnScope ["_law_one_z", "_law_other_z"] ["_law_one_z", "_law_other_z"] (defScope s__law_less) := ⟨rfl, rfl, rfl, by decide +kernel, rfl, by decide +kernel, by decide +kernel⟩
theorem prod_fits {i j : Int} (h1 : i.natAbs < 2 ^ 2000) (h2 : j.natAbs < 2 ^ 2000) : (i * j).natAbs < 2 ^ 8000 := Nat.lt_of_lt_of_le (mul_lt h1 h2) (Nat.pow_le_pow_right (by decide) (by decide))
theorem ok_plus {f fL : Addr} {fd fdL : FuncData} (F : Fun K "_law_plus" "_law_plus" s__law_plus f fd) (GL : FnOk P w K mg base CX0 1 fL fdL ["_law_top", "_law_bottom"] spLowest) (mL : mg "_law_low" = some (.ref fL)) (kL : PySem.W.keepIn K (.ref fL) = true) (bL : Binds K fdL ["_law_top", "_law_bottom"] []) :
    FnOk P w K mg base CX0 2 f fd ["_law_one_z", "_law_other_z"] (spPair K addP) := by
  refine F.ok scPlus (fun vs H Q E h => ?_) (fun cdv A outer s H vs Q E hr h => ?_)
  · obtain ⟨x, y, _, _, rfl, _⟩ := h
    rfl
  · obtain ⟨_, _, ⟨a, b⟩, ⟨c, d⟩, rfl, ⟨T1, rfl, h1⟩, ⟨T2, rfl, h2⟩, ⟨sa, sb, pb⟩, ⟨sc, sd, pd⟩, q⟩ := h
    have nd := scPlus.nd
    refine ⟨_, pss_one (ps_ret (pe_call GL hr (by rfl) mL kL bL .nil pass0 (pa_cons (pe_op op_add (pe_op op_mulW (pe_ix ix_tup (pv 0) pe_int fun _ _ => rfl) (pe_ix ix_tup (pv 1) pe_int fun _ _ => rfl)) (pe_op op_mulW (pe_ix ix_tup (pv 1) pe_int fun _ _ => rfl) (pe_ix ix_tup (pv 0) pe_int fun _ _ => rfl)))
      (pa_cons (pe_op op_mulW (pe_ix ix_tup (pv 0) pe_int fun _ _ => rfl) (pe_ix ix_tup (pv 1) pe_int fun _ _ => rfl)) pa_nil)))), ?_⟩
    have m : ∀ {i j : Int}, i.natAbs < 2 ^ 2000 → j.natAbs < 2 ^ 2000 → CMulW i j := fun h1 h2 => wide_mul h1 h2 (by decide) (by decide) (by decide)
    refine ⟨_, rfl, _, _, _, _, rfl, rfl, h1, rfl, _, rfl, _, _, _, _, rfl, rfl, h2, rfl, _, _, rfl, rfl, m sa sd, ?_⟩
    refine ⟨_, rfl, _, _, _, _, rfl, rfl, h2, rfl, _, rfl, _, _, _, _, rfl, rfl, h1, rfl, _, _, rfl, rfl, m sc sb, _, _, rfl, rfl, ?_⟩
    refine ⟨_, rfl, _, _, _, _, rfl, rfl, h1, rfl, _, rfl, _, _, _, _, rfl, rfl, h2, rfl, _, _, rfl, rfl, m sb sd, ?_⟩
    exact ⟨_, _, rfl, Int.mul_pos pb pd, prod_fits sb sd, fun T hT => q T _ (same_upd hT) upd_same⟩
end
end Lw

set_option maxRecDepth 100000
set_option linter.unusedVariables false
namespace Lw
open PySem PySem.Spec PyProof.Rows L2 VG
section
variable {P : Program} {w : World} {K : PySem.W.Frag} {mg : Str → Option Value} {base : Heap}
theorem ok_times {f fL : Addr} {fd fdL : FuncData} (F : Fun K "_law_times" "_law_times" s__law_times f fd) (GL : FnOk P w K mg base CX0 1 fL fdL ["_law_top", "_law_bottom"] spLowest) (mL : mg "_law_low" = some (.ref fL)) (kL : PySem.W.keepIn K (.ref fL) = true) (bL : Binds K fdL ["_law_top", "_law_bottom"] []) :
    FnOk P w K mg base CX0 2 f fd ["_law_one_z", "_law_other_z"] (spPair K mulP) := by
  refine F.ok scTimes (fun vs H Q E h => ?_) (fun cdv A outer s H vs Q E hr h => ?_)
  · obtain ⟨x, y, _, _, rfl, _⟩ := h
    rfl
  · obtain ⟨_, _, ⟨a, b⟩, ⟨c, d⟩, rfl, ⟨T1, rfl, h1⟩, ⟨T2, rfl, h2⟩, ⟨sa, sb, pb⟩, ⟨sc, sd, pd⟩, q⟩ := h
    have nd := scTimes.nd
    refine ⟨_, pss_one (ps_ret (pe_call GL hr (by rfl) mL kL bL .nil pass0 (pa_cons (pe_op op_mulW (pe_ix ix_tup (pv 0) pe_int fun _ _ => rfl) (pe_ix ix_tup (pv 1) pe_int fun _ _ => rfl))
      (pa_cons (pe_op op_mulW (pe_ix ix_tup (pv 0) pe_int fun _ _ => rfl) (pe_ix ix_tup (pv 1) pe_int fun _ _ => rfl)) pa_nil)))), ?_⟩
    have m : ∀ {i j : Int}, i.natAbs < 2 ^ 2000 → j.natAbs < 2 ^ 2000 → CMulW i j := fun h1 h2 => wide_mul h1 h2 (by decide) (by decide) (by decide)
    refine ⟨_, rfl, _, _, _, _, rfl, rfl, h1, rfl, _, rfl, _, _, _, _, rfl, rfl, h2, rfl, _, _, rfl, rfl, m sa sc, ?_⟩
    refine ⟨_, rfl, _, _, _, _, rfl, rfl, h1, rfl, _, rfl, _, _, _, _, rfl, rfl, h2, rfl, _, _, rfl, rfl, m sb sd, ?_⟩
    exact ⟨_, _, rfl, Int.mul_pos pb pd, prod_fits sb sd, fun T hT => q T _ (same_upd hT) upd_same⟩
/-- less of two pairs, as the law tells it -/
def spLess2 (K : PySem.W.Frag) : Sp := fun vs H Q _ => ∃ (x y : V) (s t : Int × Int), vs = [x, y] ∧ PairAt K H x s ∧ PairAt K H y t ∧ (s.1.natAbs < 2 ^ 2000 ∧ s.2.natAbs < 2 ^ 2000) ∧ (t.1.natAbs < 2 ^ 2000 ∧ t.2.natAbs < 2 ^ 2000) ∧ Q (.bl (decide (s.1 * t.2 < t.1 * s.2))) H
theorem ok_less2 {f : Addr} {fd : FuncData} (F : Fun K "_law_less" "_law_less" s__law_less f fd) : FnOk P w K mg base CX0 1 f fd ["_law_one_z", "_law_other_z"] (spLess2 K) := by
  refine F.ok scLess2 (fun vs H Q E h => ?_) (fun cdv A outer s H vs Q E hr h => ?_)
  · obtain ⟨x, y, _, _, rfl, _⟩ := h
    rfl
  · obtain ⟨_, _, ⟨a, b⟩, ⟨c, d⟩, rfl, ⟨T1, rfl, h1⟩, ⟨T2, rfl, h2⟩, ⟨sa, sb⟩, ⟨sc, sd⟩, q⟩ := h
    have nd := scLess2.nd
    refine ⟨_, pss_one (ps_ret (pe_cmpR op_lt (pe_op op_mulW (pe_ix ix_tup (pv 0) pe_int fun _ _ => rfl) (pe_ix ix_tup (pv 1) pe_int fun _ _ => rfl)) (pe_op op_mulW (pe_ix ix_tup (pv 1) pe_int fun _ _ => rfl) (pe_ix ix_tup (pv 0) pe_int fun _ _ => rfl)) (nomark _))), ?_⟩
    have m : ∀ {i j : Int}, i.natAbs < 2 ^ 2000 → j.natAbs < 2 ^ 2000 → CMulW i j := fun h1 h2 => wide_mul h1 h2 (by decide) (by decide) (by decide)
    refine ⟨_, rfl, _, _, _, _, rfl, rfl, h1, rfl, _, rfl, _, _, _, _, rfl, rfl, h2, rfl, _, _, rfl, rfl, m sa sd, ?_⟩
    exact ⟨_, rfl, _, _, _, _, rfl, rfl, h2, rfl, _, rfl, _, _, _, _, rfl, rfl, h1, rfl, _, _, rfl, rfl, m sc sb, _, _, rfl, rfl, q⟩
/-- a list of pairs -/
def Pairs (K : PySem.W.Frag) (H : Hp) : List V → List (Int × Int) → Prop := Paired (PairAt K H)
theorem Pairs.same {H H' : Hp} (e : Same H H') : ∀ {xs : List V} {ps : List (Int × Int)}, Pairs K H xs ps → Pairs K H' xs ps
  | _, _, .nil => .nil
  | _, _, .cons h t => .cons (PairAt.same e h) (Pairs.same e t)
theorem Pairs.get {H : Hp} : ∀ {xs : List V} {ps : List (Int × Int)} {i : Nat} {x : V}, Pairs K H xs ps → xs[i]? = some x → ∃ s, ps[i]? = some s ∧ PairAt K H x s
  | _, _, 0, _, .cons h _, e => by
    cases e
    exact ⟨_, rfl, h⟩
  | _, _, i + 1, _, .cons _ t, e => Pairs.get (i := i) t e
theorem Pairs.len {H : Hp} : ∀ {xs : List V} {ps : List (Int × Int)}, Pairs K H xs ps → xs.length = ps.length
  | _, _, .nil => rfl
  | _, _, .cons _ t => congrArg (· + 1) (Pairs.len t)
def small2 (n : Nat) (s : Int × Int) : Prop := s.1.natAbs < 2 ^ n ∧ s.2.natAbs < 2 ^ n ∧ 0 < s.2
theorem addP_sum {i : Nat} {s t : Int × Int} (h : Sum i s) (ht : small2 60 t) : Sum (i + 1) (addP s t) := by
  have e1 := mul_lt h.a ht.2.1
  have e2 := mul_lt ht.1 h.b
  have e3 := mul_lt h.b ht.2.1
  rw [Nat.add_comm 60] at e2
  have p : (2 : Nat) ^ (61 * (i + 1) + 1) = 2 * 2 ^ (61 * i + 1 + 60) := by
    rw [show 61 * (i + 1) + 1 = (61 * i + 1 + 60) + 1 by omega, Nat.pow_succ, Nat.mul_comm]
  have z := Int.natAbs_add_le (s.1 * t.2) (t.1 * s.2)
  have l1 := (low_abs (t := s.1 * t.2 + t.1 * s.2) (b := s.2 * t.2)).1
  have l2 := (low_abs (t := s.1 * t.2 + t.1 * s.2) (b := s.2 * t.2)).2
  refine ⟨?_, ?_, low_pos (Int.mul_pos h.pos ht.2.2)⟩
  · rw [p]
    show (low (s.1 * t.2 + t.1 * s.2) (s.2 * t.2)).1.natAbs < _
    generalize (2 : Nat) ^ (61 * i + 1 + 60) = A at *
    omega
  · rw [p]
    show (low (s.1 * t.2 + t.1 * s.2) (s.2 * t.2)).2.natAbs < _
    generalize (2 : Nat) ^ (61 * i + 1 + 60) = A at *
    omega
theorem mulP_sum {i : Nat} {s t : Int × Int} (h : Sum i s) (ht : small2 60 t) : Sum (i + 1) (mulP s t) := by
  have e1 := mul_lt h.a ht.1
  have e3 := mul_lt h.b ht.2.1
  have p : (2 : Nat) ^ (61 * i + 1 + 60) ≤ 2 ^ (61 * (i + 1) + 1) := Nat.pow_le_pow_right (by decide) (by omega)
  exact ⟨Nat.lt_of_le_of_lt low_abs.1 (Nat.lt_of_lt_of_le e1 p), Nat.lt_of_le_of_lt low_abs.2 (Nat.lt_of_lt_of_le e3 p), low_pos (Int.mul_pos h.pos ht.2.2)⟩
/-- the sum of a list of pairs -/
def spTotal (K : PySem.W.Frag) : Sp := fun vs H Q _ => ∃ (l : Addr) (xs : List V) (ps : List (Int × Int)), vs = [.ref l] ∧ SqL K H l xs ∧ Pairs K H xs ps ∧ (∀ s ∈ ps, small2 60 s) ∧ ps.length ≤ 10 ∧
  ∀ (T : Addr) (H' : Hp), Same H H' → H' T = some (.tup [.int (ps.foldl addP (0, 1)).1, .int (ps.foldl addP (0, 1)).2]) → Q (.ref T) H'
theorem scTotal : FnScope ["_law_pairs", "_law_found", "_law_pair"] ["_law_pairs"] (defScope s__law_total) := ⟨rfl, rfl, rfl, by decide +kernel, rfl, by decide +kernel, by decide +kernel⟩
theorem sum_small {i : Nat} {s : Int × Int} (h : Sum i s) (hi : i ≤ 10) : small2 2000 s := ⟨Nat.lt_of_lt_of_le h.a (Nat.pow_le_pow_right (by decide) (by omega)), Nat.lt_of_lt_of_le h.b (Nat.pow_le_pow_right (by decide) (by omega)), h.pos⟩
theorem small_more {s : Int × Int} (h : small2 60 s) : small2 2000 s := ⟨Nat.lt_of_lt_of_le h.1 (Nat.pow_le_pow_right (by decide) (by decide)), Nat.lt_of_lt_of_le h.2.1 (Nat.pow_le_pow_right (by decide) (by decide)), h.2.2⟩
theorem ok_total {f fP : Addr} {fd fdP : FuncData} (F : Fun K "_law_total" "_law_total" s__law_total f fd) (GP : FnOk P w K mg base CX0 2 fP fdP ["_law_one_z", "_law_other_z"] (spPair K addP)) (mP : mg "_law_plus" = some (.ref fP)) (kP : PySem.W.keepIn K (.ref fP) = true) (bP : Binds K fdP ["_law_one_z", "_law_other_z"] []) :
    FnOk P w K mg base CX0 3 f fd ["_law_pairs"] (spTotal K) := by
  refine F.ok scTotal (fun vs H Q E h => ?_) (fun cdv A outer s H vs Q E hr h => ?_)
  · obtain ⟨l, _, _, rfl, _⟩ := h
    rfl
  · obtain ⟨l, xs, ps, rfl, hl, hp, hs, h10, q⟩ := h
    have nd := scTotal.nd
    refine ⟨_, pss_cons (ps_set (i := 1) nd rfl (Or.inl rfl) (pe_tup (pa_cons pe_int (pa_cons pe_int pa_nil))))
      (pss_cons (ps_for PassesOwn.never rfl (pi_list (pv 0)) (pg_name (i := 2) nd rfl (Or.inl rfl)) (pss_one (ps_set (i := 1) nd rfl (Or.inl rfl) (pe_call GP hr (by rfl) mP kP bP .nil pass0 (pa_cons (pv 1) (pa_cons (pv 2) pa_nil))))))
      (pss_one (ps_ret (pv 1)))), ?_⟩
    refine ⟨by show 2 ≤ sizeLine; decide, fun Z hZ => ?_⟩
    have mZ := same_upd (o := .tup [.int 0, .int 1]) hZ
    refine ⟨_, rfl, l, rfl, ⟨xs, mZ.seq hl⟩, for_list (K := K) (a := l) (xs := xs) (fun i σ G => ∃ (T : Addr) (o2 : Option V), σ = [some (.ref l), some (.ref T), o2] ∧ Same H G ∧ G T = some (.tup [.int ((ps.take i).foldl addP (0, 1)).1, .int ((ps.take i).foldl addP (0, 1)).2]) ∧ Sum i ((ps.take i).foldl addP (0, 1)))
      ⟨Z, _, rfl, mZ, upd_same, (⟨by decide, by decide, by decide⟩ : Sum 0 (0, 1))⟩ (fun i σ G _ ⟨_, _, _, sm, _⟩ => sm.seq hl) ?_ ?_⟩
    · rintro i v σ G hv ⟨T, o2, rfl, sm, hT, hS⟩
      obtain ⟨t, ht, hvt⟩ := hp.get hv
      have hi : i < ps.length := (List.getElem?_eq_some_iff.mp ht).1
      have et : ps.take (i + 1) = ps.take i ++ [t] := by
        rw [List.take_add_one, ht]
        rfl
      have st := hs t (List.mem_of_getElem? ht)
      refine ⟨_, rfl, _, rfl, _, _, (ps.take i).foldl addP (0, 1), t, rfl, ⟨T, rfl, SqT.of hT⟩, hvt.same sm, sum_small hS (by omega), small_more st, fun T2 G2 m2 h2 => ?_⟩
      refine ⟨T2, _, rfl, sm.trans m2, ?_, ?_⟩
      · rw [et, List.foldl_append]
        exact h2
      · rw [et, List.foldl_append]
        exact addP_sum hS st
    · rintro σ G ⟨T, o2, rfl, sm, hT, hS⟩
      rw [hp.len, List.take_length] at hT
      exact ⟨_, rfl, q T G sm hT⟩
end
end Lw

set_option maxRecDepth 100000
set_option linter.unusedVariables false
namespace Lw
open PySem PySem.Spec PyProof.Rows L2 VG
/-- all but p is still there -/
def Ex (p : Addr) (H H' : Hp) : Prop := ∀ b o, b ≠ p → H b = some o → H' b = some o
theorem Ex.refl {p : Addr} {H : Hp} : Ex p H H := fun _ _ _ e => e
theorem Ex.trans {p : Addr} {H H1 H2 : Hp} (a : Ex p H H1) (b : Ex p H1 H2) : Ex p H H2 := fun c o n e => b c o n (a c o n e)
theorem Ex.of {p : Addr} {H H' : Hp} (a : But p H H') : Ex p H H' := fun b o n e => (a b n).trans e
theorem Ex.sm {p : Addr} {H H' : Hp} (a : Same H H') : Ex p H H' := fun b o _ e => a b o e
theorem Src.on {H H' : Hp} {p q : Addr} {cells : List Int} (s : Src H p q cells) (e : Same H H') : Src H' p q cells := by
  obtain ⟨⟨i, c, sd, n, h1, h2, h3⟩, h4, h5, h6⟩ := s
  exact ⟨⟨i, c, sd, n, e _ _ h1, h2, h3⟩, e _ _ h4, h5, h6⟩
theorem Src.at' {H : Hp} {p q : Addr} {cells : List Int} (h : Src H p q cells) : ∃ o, H p = some o := let ⟨_, _, _, _, e, _⟩ := h.ex; ⟨_, e⟩
/-- data on new addresses stand while all but p stays -/
theorem newer_ex {p q : Addr} {cells : List Int} {H H1 H2 : Hp} (s : Src H p q cells) (e : Ex p H1 H2) : Same (newer H H1) (newer H H2) := newer_mono (fun _ z => z) fun b z o h => e b o (fun y => by
  obtain ⟨u, hu⟩ := s.at'
  rw [y, hu] at z
  cases z) h
theorem low_rat {t b : Int} (h : 0 < b) : isRat (.tuple [.int (low t b).1, .int (low t b).2]) = true := by
  have hg : 0 < Nat.gcd t.natAbs b.natAbs := Nat.gcd_pos_of_pos_right _ (by omega)
  have d1 : (Nat.gcd t.natAbs b.natAbs : Int) ∣ t := Int.ofNat_dvd_left.mpr (Nat.gcd_dvd_left _ _)
  have d2 : (Nat.gcd t.natAbs b.natAbs : Int) ∣ b := Int.ofNat_dvd_left.mpr (Nat.gcd_dvd_right _ _)
  have e1 : (low t b).1.natAbs = t.natAbs / Nat.gcd t.natAbs b.natAbs := by
    show (t / (Nat.gcd t.natAbs b.natAbs : Int)).natAbs = _
    rw [Int.natAbs_ediv_of_dvd d1, Int.natAbs_natCast]
  have e2 : (low t b).2.natAbs = b.natAbs / Nat.gcd t.natAbs b.natAbs := by
    show (b / (Nat.gcd t.natAbs b.natAbs : Int)).natAbs = _
    rw [Int.natAbs_ediv_of_dvd d2, Int.natAbs_natCast]
  show (true && (true && (decide (1 ≤ (low t b).2) && decide (Nat.gcd (low t b).1.natAbs (low t b).2.natAbs = 1)))) = true
  have g1 : Nat.gcd (low t b).1.natAbs (low t b).2.natAbs = 1 := by
    rw [e1, e2]
    exact Nat.gcd_div_gcd_div_gcd_of_pos_right (by omega)
  rw [decide_eq_true (show 1 ≤ (low t b).2 by have := low_pos (t := t) h; omega), decide_eq_true g1]
  rfl
def ratT (s : Int × Int) : PyData := .tuple [.int s.1, .int s.2]
/-- a pair of numbers in a tuple of its own, not at p -/
def PairF (p : Addr) (H : Hp) (v : V) (s : Int × Int) : Prop := ∃ T, v = .ref T ∧ T ≠ p ∧ H T = some (.tup [.int s.1, .int s.2])
theorem PairF.ex {p : Addr} {H H' : Hp} {v : V} {s : Int × Int} (e : Ex p H H') (h : PairF p H v s) : PairF p H' v s := by
  obtain ⟨T, h1, h2, h3⟩ := h
  exact ⟨T, h1, h2, e _ _ h2 h3⟩
theorem PairF.at_ {p : Addr} {K : PySem.W.Frag} {H : Hp} {v : V} {s : Int × Int} (h : PairF p H v s) : PairAt K H v s := by
  obtain ⟨T, h1, h2, h3⟩ := h
  exact ⟨T, h1, SqT.of h3⟩
section
variable {P : Program} {w : World} {K : PySem.W.Frag} {mg : Str → Option Value} {base : Heap}
/-- a drawn ratio -/
def spWide (K : PySem.W.Frag) : Sp := fun vs H Q _ => ∃ (p q : Addr) (cells : List Int), vs = [.ref p] ∧ Src H p q cells ∧ ∀ (v : V) (s : Int × Int) (H' : Hp), PairF p H' v s → isRat (ratT s) = true → (s.1.natAbs < 10 ^ 18 + 1 ∧ s.2.natAbs < 10 ^ 18 + 1) → Src H' p q cells → Ex p H H' → Q v H'
theorem scWide : FnScope ["_law_src"] ["_law_src"] (defScope s__law_wide) := ⟨rfl, rfl, rfl, by decide +kernel, rfl, by decide +kernel, by decide +kernel⟩
theorem ok_wide {f fD fL : Addr} {fd fdD fdL : FuncData} (F : Fun K "_law_wide" "_law_wide" s__law_wide f fd) (GD : FnOk P w K mg base CX0 1 fD fdD ["_law_src", "_law_many"] spDraw) (mD : mg "_law_draw" = some (.ref fD)) (kD : PySem.W.keepIn K (.ref fD) = true) (bD : Binds K fdD ["_law_src", "_law_many"] [])
    (GL : FnOk P w K mg base CX0 1 fL fdL ["_law_top", "_law_bottom"] spLowest) (mL : mg "_law_low" = some (.ref fL)) (kL : PySem.W.keepIn K (.ref fL) = true) (bL : Binds K fdL ["_law_top", "_law_bottom"] []) : FnOk P w K mg base CX0 2 f fd ["_law_src"] (spWide K) := by
  refine F.ok scWide (fun vs H Q E h => ?_) (fun cdv A outer s H vs Q E hr h => ?_)
  · obtain ⟨p, q, cells, rfl, _⟩ := h
    rfl
  · obtain ⟨p, q, cells, rfl, hS, k⟩ := h
    have nd := scWide.nd
    refine ⟨_, pss_cons (ps_if (pt_cmpR op_gt (pe_call GD hr (by rfl) mD kD bD .nil pass0 (pa_cons (pv 0) (pa_cons pe_int pa_nil))) pe_int (nomark _))
        (pss_one (ps_ret (pe_call GL hr (by rfl) mL kL bL .nil pass0 (pa_cons (pe_op op_sub (pe_call GD hr (by rfl) mD kD bD .nil pass0 (pa_cons (pv 0) (pa_cons pe_int pa_nil))) pe_int) (pa_cons (pe_op op_add pe_int (pe_call GD hr (by rfl) mD kD bD .nil pass0 (pa_cons (pv 0) (pa_cons pe_int pa_nil)))) pa_nil))))) pss_nil)
      (pss_one (ps_ret (pe_call GL hr (by rfl) mL kL bL .nil pass0 (pa_cons (pe_op op_sub (pe_call GD hr (by rfl) mD kD bD .nil pass0 (pa_cons (pv 0) (pa_cons (pe_op op_pow pe_int pe_int) pa_nil))) (pe_op op_pow pe_int pe_int))
        (pa_cons (pe_op op_add pe_int (pe_call GD hr (by rfl) mD kD bD .nil pass0 (pa_cons (pv 0) (pa_cons (pe_op op_pow pe_int pe_int) pa_nil)))) pa_nil))))), ?_⟩
    have fin : ∀ {t b : Int} {G : Hp} {T : Addr}, t.natAbs < 10 ^ 18 + 1 → b.natAbs < 10 ^ 18 + 1 → 0 < b → Src G p q cells → But p H G → G T = none → Q (.ref T) (upd G T (.tup [.int (low t b).1, .int (low t b).2])) := fun {t b G T} ht hb hp sG bG hT => by
      have nT : T ≠ p := fun z => by
        obtain ⟨u, hu⟩ := sG.at'
        rw [z, hu] at hT
        cases hT
      exact k _ (low t b) _ ⟨T, rfl, nT, upd_same⟩ (low_rat hp) ⟨Nat.lt_of_le_of_lt low_abs.1 ht, Nat.lt_of_le_of_lt low_abs.2 hb⟩ (sG.on (same_upd hT)) ((Ex.of bG).trans (Ex.sm (same_upd hT)))
    have big : ∀ {n : Nat}, n < 10 ^ 18 + 1 → n < 2 ^ 8000 := fun {n} h => Nat.lt_of_lt_of_le h (Nat.le_of_lt (by decide +kernel))
    refine ⟨_, rfl, p, q, cells, 3, rfl, hS, by decide, by decide, fun d1 G1 a1 c1 S1 B1 => ?_⟩
    refine ⟨_, _, rfl, rfl, _, rfl, ite2 (fun _ => ?_) (fun _ => ?_)⟩
    · refine ⟨_, rfl, p, q, cells, 25, rfl, S1, by decide, by decide, fun d2 G2 a2 c2 S2 B2 => ?_⟩
      refine ⟨_, _, rfl, rfl, _, rfl, p, q, cells, 7, rfl, S2, by decide, by decide, fun d3 G3 a3 c3 S3 B3 => ?_⟩
      refine ⟨_, _, rfl, rfl, _, _, rfl, by omega, big (by omega), fun T hT => fin (by omega) (by omega) (by omega) S3 ((B1.trans B2).trans B3) hT⟩
    · refine ⟨_, rfl, _, _, rfl, rfl, ⟨by decide, by decide, by decide⟩, p, q, cells, 10 ^ 18, rfl, S1, by decide, by decide, fun d2 G2 a2 c2 S2 B2 => ?_⟩
      refine ⟨_, _, rfl, rfl, ⟨by decide, by decide, by decide⟩, _, _, rfl, rfl, _, rfl, _, _, rfl, rfl, ⟨by decide, by decide, by decide⟩, p, q, cells, 10 ^ 18, rfl, S2, by decide, by decide, fun d3 G3 a3 c3 S3 B3 => ?_⟩
      have e17 : ((10 : Int) ^ (17 : Int).toNat) = 100000000000000000 := by decide
      refine ⟨_, _, rfl, rfl, _, _, rfl, by omega, big (by omega), fun T hT => fin (by omega) (by omega) (by omega) S3 ((B1.trans B2).trans B3) hT⟩
/-- a ratio, or the number in its place -/
def spBare (K : PySem.W.Frag) : Sp := fun vs H Q _ => ∃ (p q : Addr) (cells : List Int) (T : Addr) (s : Int × Int), vs = [.ref p, .ref T] ∧ Src H p q cells ∧ T ≠ p ∧ SqT K H T [.int s.1, .int s.2] ∧
  ∀ (x : V) (H' : Hp), (x = .ref T ∨ (s.2 = 1 ∧ x = .int s.1)) → Src H' p q cells → But p H H' → Q x H'
theorem scBare : FnScope ["_law_src", "_law_one_z"] ["_law_src", "_law_one_z"] (defScope s__law_bare) := ⟨rfl, rfl, rfl, by decide +kernel, rfl, by decide +kernel, by decide +kernel⟩
theorem sqT_but {H H' : Hp} {p T : Addr} {xs : List V} (b : But p H H') (n : T ≠ p) (h : SqT K H T xs) : SqT K H' T xs := by
  rcases h with (h | ⟨o, h⟩) | h
  · exact .inl (.inl ((b T n).trans h))
  · exact .inl (.inr ⟨o, (b T n).trans h⟩)
  · exact .inr h
theorem ok_bare {f fD : Addr} {fd fdD : FuncData} (F : Fun K "_law_bare" "_law_bare" s__law_bare f fd) (GD : FnOk P w K mg base CX0 1 fD fdD ["_law_src", "_law_many"] spDraw) (mD : mg "_law_draw" = some (.ref fD)) (kD : PySem.W.keepIn K (.ref fD) = true) (bD : Binds K fdD ["_law_src", "_law_many"] []) :
    FnOk P w K mg base CX0 2 f fd ["_law_src", "_law_one_z"] (spBare K) := by
  refine F.ok scBare (fun vs H Q E h => ?_) (fun cdv A outer s H vs Q E hr h => ?_)
  · obtain ⟨p, q, cells, T, s, rfl, _⟩ := h
    rfl
  · obtain ⟨p, q, cells, T, ⟨a, b⟩, rfl, hS, nT, hT, k⟩ := h
    have nd := scBare.nd
    refine ⟨_, pss_one (ps_ret (pe_ifExp (PW.pt (pw_and (pt_cmpR op_eq (pe_ix ix_tup (pv 1) pe_int fun _ _ => rfl) pe_int (nomark _)) (pw_and1 (pt_cmpR op_eq (pe_call GD hr (by rfl) mD kD bD .nil pass0 (pa_cons (pv 0) (pa_cons pe_int pa_nil))) pe_int (nomark _)))))
      (pe_ix ix_tup (pv 1) pe_int fun _ _ => rfl) (pv 1))), ?_⟩
    refine ⟨_, rfl, _, _, _, _, rfl, rfl, hT, rfl, rfl, _, rfl, ?_⟩
    refine ite2 (fun h1 => ?_) (fun h1 => ?_)
    · have hb : b = 1 := V.int.inj (of_decide_eq_true h1)
      refine ⟨_, rfl, p, q, cells, 2, rfl, hS, by decide, by decide, fun d1 G1 a1 c1 S1 B1 => ⟨rfl, _, rfl, ?_⟩⟩
      refine ite2 (fun _ => ?_) (fun _ => ?_)
      · exact ⟨_, rfl, _, _, _, _, rfl, rfl, sqT_but B1 nT hT, rfl, k _ G1 (.inr ⟨hb, rfl⟩) S1 B1⟩
      · exact ⟨_, rfl, k _ G1 (.inl rfl) S1 B1⟩
    · exact iteF ⟨_, rfl, k _ H (.inl rfl) hS (But.refl p H)⟩
end
end Lw

set_option maxRecDepth 100000
set_option linter.unusedVariables false
namespace Lw
open PySem PySem.Spec PyProof.Rows L2 VG
section
variable {P : Program} {w : World} {K : PySem.W.Frag} {mg : Str → Option Value} {base : Heap}
/-- added, multiplied of any values: the fold, or the error of the first wrong one -/
def spAll (K : PySem.W.Frag) (C : Addr) (n : Nat) (step : Int × Int → PyData → Int × Int) (z : Int × Int) : Sp := fun vs H Q E => ∃ ds : List PyData, DpAll K H vs ds ∧ (∀ d ∈ ds, fit n d = true ∧ smaller 60 d) ∧ ds.length ≤ 50 ∧
  ((∀ d ∈ ds, okR d = true) → ∀ (T : Addr) (H' : Hp), Same H H' → SqT K H' T [.int (ds.foldl step z).1, .int (ds.foldl step z).2] → Q (.ref T) H') ∧
  (∀ b, firstBad ds = some b → ∀ (dd : Addr) (H' : Hp), Same H H' → ErrD K H' dd [("code", .str "InvalidRatio"), ("given", b)] → E (.ref C) (some dd) H')
theorem fold_all {CX : CXT} {k n : Nat} {f C : Addr} {step : Int × Int → PyData → Int × Int} {z : Int × Int} (F : FnR P w K mg base CX k f (fun vs H Q E => ∃ ws rest, vs = ws ++ rest ∧ ws.length = ([] : List Str).length ∧ rest.length ≤ sizeLine ∧ ∀ p, H p = Option.none → spFold K C n step z (ws ++ [V.ref p]) (upd H p (.tup rest)) Q E)) :
    FnR P w K mg base CX k f (spAll K C n step z) := fun A outer s H us vs Q E hr e0 r ⟨ds, hd, hf, h50, q1, q2⟩ => F A outer s H us vs Q E hr e0 r
  ⟨[], vs, rfl, rfl, by rw [DpAll.len hd]; exact Nat.le_trans h50 (by decide), fun p hp => ⟨p, vs, ds, rfl, SqT.of upd_same, DpAll.same (same_upd hp) _ _ hd, hf, h50, fun ok T H' m t => q1 ok T H' ((same_upd hp).trans m) t, fun b hb dd H' m er => q2 b hb dd H' ((same_upd hp).trans m) er⟩⟩
theorem none_bad {ds : List PyData} (h : ∀ d ∈ ds, okR d = true) : firstBad ds = none := List.find?_eq_none.mpr fun x hx => by rw [h x hx]; decide
def spSap (K : PySem.W.Frag) : Sp := fun vs H Q _ => ∃ (l : Addr) (xs : List V) (ds : List PyData), vs = [.ref l] ∧ SqL K H l xs ∧ DpAll K H xs ds ∧ (∀ d ∈ ds, fit 2 d = true ∧ smaller 60 d ∧ okR d = true) ∧ ds.length ≤ 3 ∧
  ∀ (L T1 T2 : Addr) (H' : Hp), Same H H' → SqL K H' L [.ref T1, .ref T2] → SqT K H' T1 [.int (ds.foldl addS (0, 1)).1, .int (ds.foldl addS (0, 1)).2] → SqT K H' T2 [.int (ds.foldl mulS (1, 1)).1, .int (ds.foldl mulS (1, 1)).2] → Q (.ref L) H'
theorem scSap : FnScope ["_law_some"] ["_law_some"] (defScope s__law_sum_and_product) := ⟨rfl, rfl, rfl, by decide +kernel, rfl, by decide +kernel, by decide +kernel⟩
theorem ok_sap {f fA fM C : Addr} {fd : FuncData} {k : Nat} (F : Fun K "_law_sum_and_product" "_law_sum_and_product" s__law_sum_and_product f fd) (ln : mg "len" = none) (GA : FnR P w K mg base (L2.CX P w) k fA (spAll K C 2 addS (0, 1))) (mA : mg "added" = some (.ref fA)) (kA : PySem.W.keepIn K (.ref fA) = true)
    (GM : FnR P w K mg base (L2.CX P w) k fM (spAll K C 2 mulS (1, 1))) (mM : mg "multiplied" = some (.ref fM)) (kM : PySem.W.keepIn K (.ref fM) = true) : FnOk P w K mg base CX0 (k + 1) f fd ["_law_some"] (spSap K) := by
  refine F.ok scSap (fun vs H Q E h => ?_) (fun cdv A outer s H vs Q E hr h => ?_)
  · obtain ⟨l, _, _, rfl, _⟩ := h
    rfl
  · obtain ⟨l, xs, ds, rfl, hl, hd, hf, h3, q⟩ := h
    refine ⟨_, PSs.nox (pss_cons (ps_if (pt_cmpR op_eq (pe_callB call_len_seq (by rfl) ln PySem.boot_len (pa_cons (pv 0) pa_nil)) pe_int (nomark _)) (pss_one (ps_ret (pe_lst (pa_cons (pe_callR0 GA hr kA (by rfl) mA passF) (pa_cons (pe_callR0 GM hr kM (by rfl) mM passF) pa_nil))))) pss_nil)
      (pss_cons (ps_if (pt_cmpR op_eq (pe_callB call_len_seq (by rfl) ln PySem.boot_len (pa_cons (pv 0) pa_nil)) pe_int (nomark _)) (pss_one (ps_ret (pe_lst (pa_cons (pe_callR GA hr kA (by rfl) mA passF (pa_cons (pe_ix ix_list (pv 0) pe_int fun _ _ => rfl) pa_nil)) (pa_cons (pe_callR GM hr kM (by rfl) mM passF (pa_cons (pe_ix ix_list (pv 0) pe_int fun _ _ => rfl) pa_nil)) pa_nil))))) pss_nil)
      (pss_cons (ps_if (pt_cmpR op_eq (pe_callB call_len_seq (by rfl) ln PySem.boot_len (pa_cons (pv 0) pa_nil)) pe_int (nomark _)) (pss_one (ps_ret (pe_lst (pa_cons (pe_callR GA hr kA (by rfl) mA passF (pa_cons (pe_ix ix_list (pv 0) pe_int fun _ _ => rfl) (pa_cons (pe_ix ix_list (pv 0) pe_int fun _ _ => rfl) pa_nil)))
          (pa_cons (pe_callR GM hr kM (by rfl) mM passF (pa_cons (pe_ix ix_list (pv 0) pe_int fun _ _ => rfl) (pa_cons (pe_ix ix_list (pv 0) pe_int fun _ _ => rfl) pa_nil))) pa_nil))))) pss_nil)
      (pss_one (ps_ret (pe_lst (pa_cons (pe_callR GA hr kA (by rfl) mA passF (pa_cons (pe_ix ix_list (pv 0) pe_int fun _ _ => rfl) (pa_cons (pe_ix ix_list (pv 0) pe_int fun _ _ => rfl) (pa_cons (pe_ix ix_list (pv 0) pe_int fun _ _ => rfl) pa_nil))))
          (pa_cons (pe_callR GM hr kM (by rfl) mM passF (pa_cons (pe_ix ix_list (pv 0) pe_int fun _ _ => rfl) (pa_cons (pe_ix ix_list (pv 0) pe_int fun _ _ => rfl) (pa_cons (pe_ix ix_list (pv 0) pe_int fun _ _ => rfl) pa_nil)))) pa_nil)))))))), ?_⟩
    have hf2 : ∀ d ∈ ds, fit 2 d = true ∧ smaller 60 d := fun d hd => ⟨(hf d hd).1, (hf d hd).2.1⟩
    have hok : ∀ d ∈ ds, okR d = true := fun d hd => (hf d hd).2.2
    have nb := none_bad hok
    have h50 : ds.length ≤ 50 := by omega
    have two : (2 : Nat) ≤ sizeLine := by decide
    have fin : ∀ {G1 G2 : Hp} {T1 T2 L : Addr}, Same H G1 → SqT K G1 T1 [.int (ds.foldl addS (0, 1)).1, .int (ds.foldl addS (0, 1)).2] → Same G1 G2 → SqT K G2 T2 [.int (ds.foldl mulS (1, 1)).1, .int (ds.foldl mulS (1, 1)).2] → G2 L = none → Q (.ref L) (upd G2 L (.lst [.ref T1, .ref T2])) := fun {G1 G2 T1 T2 L} m1 t1 m2 t2 hL =>
      q L T1 T2 _ ((m1.trans m2).trans (same_upd hL)) (SqL.of upd_same) (Same.tup (m2.trans (same_upd hL)) t1) (Same.tup (same_upd hL) t2)
    have bad : ∀ {b : PyData} {R : Prop}, firstBad ds = some b → R := fun {b R} h => by
      rw [nb] at h
      cases h
    have hd0 := hd
    cases hd with
    | nil =>
      refine ⟨_, rfl, l, _, rfl, .inl hl, rfl, true, rfl, iteT ?_⟩
      exact ⟨_, hd0, hf2, h50, fun _ T1 G1 m1 t1 => ⟨_, DpAll.same m1 _ _ hd0, hf2, h50, fun _ T2 G2 m2 t2 => ⟨two, fun L hL => fin m1 t1 m2 t2 hL⟩, fun b hb => bad hb⟩, fun b hb => bad hb⟩
    | cons d1 t1 =>
      cases t1 with
      | nil =>
        refine ⟨_, rfl, l, _, rfl, .inl hl, rfl, false, rfl, iteF ?_⟩
        refine ⟨_, rfl, l, _, rfl, .inl hl, rfl, true, rfl, iteT ?_⟩
        refine ⟨_, rfl, _, _, _, _, rfl, rfl, hl, rfl, _, hd0, hf2, h50, fun _ T1 G1 m1 t1 => ?_, fun b hb => bad hb⟩
        exact ⟨_, rfl, _, _, _, _, rfl, rfl, (m1.seq hl), rfl, _, DpAll.same m1 _ _ hd0, hf2, h50, fun _ T2 G2 m2 t2 => ⟨two, fun L hL => fin m1 t1 m2 t2 hL⟩, fun b hb => bad hb⟩
      | cons d2 t2 =>
        cases t2 with
        | nil =>
          refine ⟨_, rfl, l, _, rfl, .inl hl, rfl, false, rfl, iteF ?_⟩
          refine ⟨_, rfl, l, _, rfl, .inl hl, rfl, false, rfl, iteF ?_⟩
          refine ⟨_, rfl, l, _, rfl, .inl hl, rfl, true, rfl, iteT ?_⟩
          refine ⟨_, rfl, _, _, _, _, rfl, rfl, hl, rfl, _, rfl, _, _, _, _, rfl, rfl, hl, rfl, _, hd0, hf2, h50, fun _ T1 G1 m1 t1 => ?_, fun b hb => bad hb⟩
          exact ⟨_, rfl, _, _, _, _, rfl, rfl, (m1.seq hl), rfl, _, rfl, _, _, _, _, rfl, rfl, (m1.seq hl), rfl, _, DpAll.same m1 _ _ hd0, hf2, h50, fun _ T2 G2 m2 t2 => ⟨two, fun L hL => fin m1 t1 m2 t2 hL⟩, fun b hb => bad hb⟩
        | cons d3 t3 =>
          cases t3 with
          | nil =>
            refine ⟨_, rfl, l, _, rfl, .inl hl, rfl, false, rfl, iteF ?_⟩
            refine ⟨_, rfl, l, _, rfl, .inl hl, rfl, false, rfl, iteF ?_⟩
            refine ⟨_, rfl, l, _, rfl, .inl hl, rfl, false, rfl, iteF ?_⟩
            refine ⟨_, rfl, _, _, _, _, rfl, rfl, hl, rfl, _, rfl, _, _, _, _, rfl, rfl, hl, rfl, _, rfl, _, _, _, _, rfl, rfl, hl, rfl, _, hd0, hf2, h50, fun _ T1 G1 m1 t1 => ?_, fun b hb => bad hb⟩
            exact ⟨_, rfl, _, _, _, _, rfl, rfl, (m1.seq hl), rfl, _, rfl, _, _, _, _, rfl, rfl, (m1.seq hl), rfl, _, rfl, _, _, _, _, rfl, rfl, (m1.seq hl), rfl, _, DpAll.same m1 _ _ hd0, hf2, h50, fun _ T2 G2 m2 t2 => ⟨two, fun L hL => fin m1 t1 m2 t2 hL⟩, fun b hb => bad hb⟩
          | cons d4 t4 =>
            simp only [List.length_cons] at h3
            omega
end
end Lw

set_option maxRecDepth 100000
namespace Lw
open PySem PySem.Spec PyProof.Rows L2 VG LamX
abbrev NL : List Str := ["_law_script", "_law_src", "_law_turn", "_law_pairs", "_law_k", "_law_product", "_law_pair", "_law_one_z", "_law_other_z", "_law_odd", "_law_bad", "_law_asks"]
theorem scLaw : FnScope NL ["_law_script"] (defScope sLaw) := ⟨rfl, rfl, rfl, by decide +kernel, rfl, by decide +kernel, by decide +kernel⟩
theorem scAsk : FnScope ["_law_f", "_law_e"] ["_law_f"] (defScope s__law_ask) := ⟨rfl, rfl, rfl, by decide +kernel, rfl, by decide +kernel, by decide +kernel⟩
abbrev lamQ : Str := "law.<locals>.<lambda>"
/-- what asking needs: the def, the errors that it catches, the fields -/
structure AskT (P : Program) (w : World) (K : PySem.W.Frag) (mg : Str → Option Value) (base : Heap) (c tb : Addr) (cs : List Value) : Prop where
  ask : ∃ (g : Addr) (fd : FuncData), Fun K "_law_ask" "_law_ask" s__law_ask g fd ∧ mg "_law_ask" = some (.ref g) ∧ L2.Binds K fd ["_law_f"] []
  fields : ∃ (f : Addr) (fd : FuncData), FnE P w K mg base CX0 1 f fd ["_law_e"] (spFields K) ∧ mg "_law_fields" = some (.ref f) ∧ PySem.W.keepIn K (.ref f) = true ∧ L2.Binds K fd ["_law_e"] []
  errs : ∃ c1 c2 c3, cs = [c1, c2, c3] ∧ mg "MilesError" = some c1 ∧ mg "Missing" = some c2 ∧ mg "NothingLeft" = some c3
  tab : TabB base mg c tb
section
variable {X : Cx} {c tb : Addr} {cs : List Value} {k : Nat} {params : Arguments} {body : Expr} {scope : Scope} {t : XK → TE} {p lpos pos p0 : Pos} {a : Str} {z : Int} {j : Nat}
theorem gives {g : Addr} {cdg : Value} (T : AskT X.prog X.w X.K X.mg X.base c tb cs) (hr : Room (k + 2) X.A) : GivesTo X ["_law_f", "_law_e"] "_law_ask" (defScope s__law_ask) g cdg (defBody s__law_ask) "_law_f" lamQ (TAsk X.K cs) := by
  obtain ⟨f, fdF, F1, F2, F3, F4⟩ := T.fields
  obtain ⟨c1, c2, c3, rfl, e1, e2, e3⟩ := T.errs
  exact ask_gives (sg := defScope s__law_ask) (e := "_law_e") (y := "_law_fields") (xA := "MilesError") (xB := "Missing") (xC := "NothingLeft") F1 (hr.mono (by omega)) scAsk.nd rfl (by rfl) (by rfl) (by rfl) (by rfl) (by rfl) e1 e2 e3 F2 F3 F4 (by decide) (by decide) (by decide) (by decide) (by decide) (by decide) (fun _ => rfl) (by decide)
theorem pe_ask (T : AskT X.prog X.w X.K X.mg X.base c tb cs) (hcode : X.env.code = .ref c) (hq : X.env.qual ++ "<lambda>" = lamQ) (hg : Gl X "_law_ask") (hr : Room (k + 2) X.A) (L : LamS X.env.scope scope) (hdef : defaultsOf params X.env = ([], []))
    (hbind : ∀ (q : Str) (cl : List (Str × Addr)) (pm cv ctv : Value), bindArgs (PySem.W.kla_fn "<lambda>" q params body scope cl pm cv ctv) ⟨[], []⟩ = pure [])
    (hbody : ∀ (A : Around) (outer : List Env) (s : Shared) (H : Hp) (E : XK) (f c' : Addr), Room k (A.deeper (lamEnv X scope s.heap.objs.size f c')) → PE (lamCx X A outer s H E scope f c') body (t E)) :
    PE X (.Call (.Name "_law_ask" p) [.Lambda params body scope lpos] [] pos) (tLam [(tb, lamQ)] (TAsk X.K cs) t) := by
  obtain ⟨g, fd, F, m, b⟩ := T.ask
  obtain ⟨oc, od, kV, doc, pm, an, cdv, ct, osl, rfl, lk, hcd⟩ := F.ex
  exact pe_lamcall hg m F.kp lk hcd b scAsk rfl (.inl rfl) (by rw [hq]; exact gives T hr) T.tab hcode (by rw [hq]; exact List.mem_singleton.mpr rfl) (fun p hp e => by rw [hq]; rw [List.mem_singleton.mp hp]) hr L hdef hbind hbody
theorem pe_ask0 (T : AskT X.prog X.w X.K X.mg X.base c tb cs) (hcode : X.env.code = .ref c) (hq : X.env.qual ++ "<lambda>" = lamQ) (hg : Gl X "_law_ask") (hr : Room (k + 2) X.A) (L : LamD X.env.scope scope a X.N) (hdef : defaultsOf params X.env = ([eval (.Constant (.int z) j p0) X.env], [])) (hkw : params.kwonlyargs = [])
    (binds : ∀ (q : Str) (cl : List (Str × Addr)) (pm cv ctv u : Value) (D : Addr) (s2 : Shared), s2.heap.get? D = some (oneTup u) → BindsTo s2 (dlFn q params body scope cl pm cv ctv (.ref D)) ⟨[], []⟩ [(a, u)])
    (hbody : ∀ (A : Around) (outer : List Env) (s : Shared) (H : Hp) (E : XK) (f c' : Addr), Room k (A.deeper (lamEnv X scope s.heap.objs.size f c')) → PE (lamCx X A outer s H E scope f c') body (t E)) :
    PE X (.Call (.Name "_law_ask" p) [.Lambda params body scope lpos] [] pos) (tLam [(tb, lamQ)] (TAsk X.K cs) t) := by
  obtain ⟨g, fd, F, m, b⟩ := T.ask
  obtain ⟨oc, od, kV, doc, pm, an, cdv, ct, osl, rfl, lk, hcd⟩ := F.ex
  exact pe_dlcall hg m F.kp lk hcd b scAsk rfl (.inl rfl) (by rw [hq]; exact gives T hr) T.tab hcode (by rw [hq]; exact List.mem_singleton.mpr rfl) (fun p hp e => by rw [hq]; rw [List.mem_singleton.mp hp]) hr L hdef hkw binds hbody
end
end Lw

set_option maxRecDepth 100000
set_option linter.unusedVariables false
namespace Lw
open PySem PySem.Spec PyProof.Rows L2 VG LamX
/-- a def that keeps a promise, by its name -/
structure Def (P : Program) (w : World) (K : PySem.W.Frag) (mg : Str → Option Value) (base : Heap) (CX : CXT) (k : Nat) (x : Str) (ps : List Str) (sp : Sp) (f : Addr) (fd : FuncData) : Prop where
  ok : FnOk P w K mg base CX k f fd ps sp
  at_ : mg x = some (.ref f)
  kp : PySem.W.keepIn K (.ref f) = true
  bd : L2.Binds K fd ps []
structure DefR (P : Program) (w : World) (K : PySem.W.Frag) (mg : Str → Option Value) (base : Heap) (CX : CXT) (k : Nat) (x : Str) (sp : Sp) (f : Addr) : Prop where
  ok : FnR P w K mg base CX k f sp
  at_ : mg x = some (.ref f)
  kp : PySem.W.keepIn K (.ref f) = true
structure LawT (P : Program) (w : World) (K : PySem.W.Frag) (mg : Str → Option Value) (base : Heap) (C c tb : Addr) (cs : List Value) : Prop where
  src : ∃ f fd, Def P w K mg base CX0 1 "_law_source" ["_law_script"] (spSource K) f fd
  draw : ∃ f fd, Def P w K mg base CX0 1 "_law_draw" ["_law_src", "_law_many"] spDraw f fd
  of_ : ∃ f fd, Def P w K mg base CX0 2 "_law_of" ["_law_src", "_law_some"] (spOf K) f fd
  same : ∃ f fd, FnG P w K mg base CX0 1 f fd ["_law_found", "_law_due"] (spSame K) ∧ mg "_law_same" = some (.ref f) ∧ PySem.W.keepIn K (.ref f) = true ∧ L2.Binds K fd ["_law_found", "_law_due"] []
  wide : ∃ f fd, Def P w K mg base CX0 2 "_law_wide" ["_law_src"] (spWide K) f fd
  bare : ∃ f fd, Def P w K mg base CX0 2 "_law_bare" ["_law_src", "_law_one_z"] (spBare K) f fd
  times : ∃ f fd, Def P w K mg base CX0 2 "_law_times" ["_law_one_z", "_law_other_z"] (spPair K mulP) f fd
  less2 : ∃ f fd, Def P w K mg base CX0 1 "_law_less" ["_law_one_z", "_law_other_z"] (spLess2 K) f fd
  total : ∃ f fd, Def P w K mg base CX0 3 "_law_total" ["_law_pairs"] (spTotal K) f fd
  sap : ∃ f fd, Def P w K mg base CX0 8 "_law_sum_and_product" ["_law_some"] (spSap K) f fd
  added : ∃ f, DefR P w K mg base (L2.CX P w) 7 "added" (spAll K C 2 addS (0, 1)) f
  mult : ∃ f, DefR P w K mg base (L2.CX P w) 7 "multiplied" (spAll K C 2 mulS (1, 1)) f
  less : ∃ f fd, Def P w K mg base (L2.CX P w) 7 "is_less" ["one", "other"] (spLess K C 2) f fd ∧ KBn K fd ["one", "other"] 0 ["other", "one"] (fun us ws => ws.reverse) (fun us ws => ws.reverse)
  ask : AskT P w K mg base c tb cs
  own : OwnX K C
  exm : PySem.W.exmAny K (.ref C) cs = some true
  rng : mg "range" = none
abbrev XL (P : Program) (w : World) (K : PySem.W.Frag) (mg : Str → Option Value) (base : Heap) (f c : Addr) (A : Around) (outer : List Env) (s : Shared) (H : Hp) (E : XK) : Cx := (cxOf CX0 P w K mg base NL "law" (defScope sLaw) f (.ref c) A outer s H E).nox
def spLaw (K : PySem.W.Frag) (tb : Addr) : Sp := fun vs H Q _ => ∃ (a : Addr) (ns : List Int), vs = [.ref a] ∧ SqL K H a (ns.map V.int) ∧ ns.length ≤ 63 ∧ H tb = some (.tbl #[]) ∧ ∀ H', Q (.bl true) H'
end Lw

set_option maxRecDepth 100000
set_option linter.unusedVariables false
namespace Lw
open PySem PySem.Spec PyProof.Rows L2 VG LamX
def Good (s : Int × Int) : Prop := isRat (ratT s) = true ∧ s.1.natAbs < 2 ^ 60 ∧ s.2.natAbs < 2 ^ 60 ∧ 0 < s.2
theorem good_of {s : Int × Int} (h : isRat (ratT s) = true) (b : s.1.natAbs < 10 ^ 18 + 1 ∧ s.2.natAbs < 10 ^ 18 + 1) : Good s := by
  have e : (10 : Nat) ^ 18 + 1 ≤ 2 ^ 60 := by decide
  obtain ⟨x, y, z, hz⟩ := isRat_form h
  have e2 : s.2 = y := by
    unfold ratT at z
    injection z with z
    injection z with _ z
    injection z with z _
    injection z
  exact ⟨h, Nat.lt_of_lt_of_le b.1 e, Nat.lt_of_lt_of_le b.2 e, by omega⟩
theorem Good.small {s : Int × Int} (h : Good s) : small2 60 s := ⟨h.2.1, h.2.2.1, h.2.2.2⟩
/-- pairs of their own, not at p -/
def PFs (p : Addr) (H : Hp) : List V → List (Int × Int) → Prop := Paired (PairF p H)
theorem PFs.ex {p : Addr} {H H' : Hp} (e : Ex p H H') : ∀ {xs : List V} {ps : List (Int × Int)}, PFs p H xs ps → PFs p H' xs ps
  | _, _, .nil => .nil
  | _, _, .cons h t => .cons (PairF.ex e h) (PFs.ex e t)
theorem PFs.pairs {p : Addr} {K : PySem.W.Frag} {H : Hp} : ∀ {xs : List V} {ps : List (Int × Int)}, PFs p H xs ps → Pairs K H xs ps
  | _, _, .nil => .nil
  | _, _, .cons h t => .cons h.at_ (PFs.pairs t)
theorem PFs.len {p : Addr} {H : Hp} : ∀ {xs : List V} {ps : List (Int × Int)}, PFs p H xs ps → xs.length = ps.length
  | _, _, .nil => rfl
  | _, _, .cons _ t => congrArg (· + 1) (PFs.len t)
theorem PFs.get {p : Addr} {H : Hp} : ∀ {xs : List V} {ps : List (Int × Int)} {i : Nat} {x : V}, PFs p H xs ps → xs[i]? = some x → ∃ s, ps[i]? = some s ∧ PairF p H x s
  | _, _, 0, _, .cons h _, e => by
    cases e
    exact ⟨_, rfl, h⟩
  | _, _, i + 1, _, .cons _ t, e => PFs.get (i := i) t e
/-- a pair of its own, or the number in its place -/
def BareF (p : Addr) (H : Hp) (x : V) (s : Int × Int) : Prop := PairF p H x s ∨ (s.2 = 1 ∧ x = .int s.1)
def BFs (p : Addr) (H : Hp) : List V → List (Int × Int) → Prop := Paired (BareF p H)
theorem BareF.ex {p : Addr} {H H' : Hp} {v : V} {s : Int × Int} (e : Ex p H H') (h : BareF p H v s) : BareF p H' v s := h.imp (PairF.ex e) id
theorem BFs.ex {p : Addr} {H H' : Hp} (e : Ex p H H') : ∀ {xs : List V} {ps : List (Int × Int)}, BFs p H xs ps → BFs p H' xs ps
  | _, _, .nil => .nil
  | _, _, .cons h t => .cons (BareF.ex e h) (BFs.ex e t)
theorem BFs.len {p : Addr} {H : Hp} : ∀ {xs : List V} {ps : List (Int × Int)}, BFs p H xs ps → xs.length = ps.length
  | _, _, .nil => rfl
  | _, _, .cons _ t => congrArg (· + 1) (BFs.len t)
theorem PairF.dp {p : Addr} {K : PySem.W.Frag} {H : Hp} {x : V} {s : Int × Int} (h : PairF p H x s) : Dp K H x (ratT s) := by
  obtain ⟨T, rfl, _, h⟩ := h
  exact .tup (SqT.of h) (.cons (.int _) (.cons (.int _) .nil))
theorem fit_rat (s : Int × Int) : fit 2 (ratT s) = true := rfl
theorem BareF.dat {p : Addr} {K : PySem.W.Frag} {H : Hp} {x : V} {s : Int × Int} (h : BareF p H x s) (g : Good s) : ∃ d, Dp K H x d ∧ ratD d = s ∧ fit 2 d = true ∧ okR d = true := by
  rcases h with h | ⟨h1, h2⟩
  · exact ⟨ratT s, h.dp, rfl, rfl, by unfold okR; rw [g.1, Bool.or_true]⟩
  · subst h2
    obtain ⟨a, b⟩ := s
    have h1 : b = 1 := h1
    subst h1
    exact ⟨.int a, .int a, rfl, rfl, rfl⟩
theorem BFs.dat {p : Addr} {K : PySem.W.Frag} {H : Hp} : ∀ {xs : List V} {ps : List (Int × Int)}, BFs p H xs ps → (∀ s ∈ ps, Good s) → ∃ ds, DpAll K H xs ds ∧ ds.map ratD = ps ∧ (∀ d ∈ ds, fit 2 d = true ∧ smaller 60 d ∧ okR d = true)
  | _, _, .nil, _ => ⟨[], .nil, rfl, fun _ h => by cases h⟩
  | _, _, .cons (b := s) h t, g => by
    have gs := g s (List.mem_cons_self)
    obtain ⟨d, d1, d2, d3, d4⟩ := h.dat (K := K) gs
    obtain ⟨ds, e1, e2, e3⟩ := BFs.dat (K := K) t fun s hs => g s (List.mem_cons_of_mem _ hs)
    refine ⟨d :: ds, .cons d1 e1, by rw [List.map_cons, d2, e2], fun x hx => ?_⟩
    rcases List.mem_cons.mp hx with rfl | hx
    · exact ⟨d3, by unfold smaller; rw [d2]; exact ⟨gs.2.1, gs.2.2.1⟩, d4⟩
    · exact e3 x hx
theorem fold_add (ds : List PyData) (z : Int × Int) : ds.foldl addS z = (ds.map ratD).foldl addP z := by
  rw [List.foldl_map]
  rfl
theorem fold_mul (ds : List PyData) (z : Int × Int) : ds.foldl mulS z = (ds.map ratD).foldl mulP z := by
  rw [List.foldl_map]
  rfl
theorem sum_fold : ∀ (ps : List (Int × Int)) (i : Nat) (s : Int × Int), Sum i s → (∀ t ∈ ps, Good t) → Sum (i + ps.length) (ps.foldl addP s)
  | [], i, s, h, _ => h
  | t :: ps, i, s, h, g => by
    have z := sum_fold ps (i + 1) (addP s t) (addP_sum h (g t List.mem_cons_self).small) fun t ht => g t (List.mem_cons_of_mem _ ht)
    rw [List.length_cons, show i + (ps.length + 1) = i + 1 + ps.length by omega]
    exact z
theorem mul_fold : ∀ (ps : List (Int × Int)) (i : Nat) (s : Int × Int), Sum i s → (∀ t ∈ ps, Good t) → Sum (i + ps.length) (ps.foldl mulP s)
  | [], i, s, h, _ => h
  | t :: ps, i, s, h, g => by
    have z := mul_fold ps (i + 1) (mulP s t) (mulP_sum h (g t List.mem_cons_self).small) fun t ht => g t (List.mem_cons_of_mem _ ht)
    rw [List.length_cons, show i + (ps.length + 1) = i + 1 + ps.length by omega]
    exact z
theorem Sum.sm {i : Nat} {s : Int × Int} (h : Sum i s) (hi : i ≤ 3) : VG.sm (ratT s) = true := by
  have e : (2 : Nat) ^ (61 * i + 1) ≤ 10 ^ 90 := Nat.le_trans (Nat.pow_le_pow_right (by decide) (show 61 * i + 1 ≤ 184 by omega)) (by decide)
  have a := Nat.lt_of_lt_of_le h.a e
  have b := Nat.lt_of_lt_of_le h.b e
  unfold ratT
  simp only [VG.sm, VG.smAll, Bool.and_true, Bool.and_eq_true, decide_eq_true_eq]
  exact ⟨a, b⟩
theorem two_sm {s t : Int × Int} (h1 : VG.sm (ratT s) = true) (h2 : VG.sm (ratT t) = true) : Sm (.list [ratT s, ratT t]) :=
  ⟨by simp only [VG.sm, VG.smAll, h1, h2, Bool.and_self], by simp [ratT, PyData.depth, PyData.depthAll], by simp [ratT, PyData.bulk, PyData.bulkAll]⟩
theorem bools_sm (a b c : Bool) : Sm (.list [.bool a, .bool b, .bool c]) := ⟨by simp [VG.sm, VG.smAll], by simp [PyData.depth, PyData.depthAll], by simp [PyData.bulk, PyData.bulkAll]⟩
def oddD (d : PyData) : PyData := .list [.tuple [.str "InvalidRatio", d], .tuple [.str "InvalidRatio", d], .tuple [.str "InvalidRatio", d], .tuple [.str "InvalidRatio", d]]
theorem odd_sm {d : PyData} (h1 : VG.sm d = true) (h2 : d.depth ≤ 5) (h3 : d.bulk ≤ 100) : Sm (oddD d) := by
  have x : PyData.strOk "InvalidRatio" = true := by decide +kernel
  refine ⟨by simp only [oddD, VG.sm, VG.smAll, h1, x, Bool.and_self], ?_, ?_⟩
  · simp only [oddD, PyData.depth, PyData.depthAll]
    omega
  · have e : ("InvalidRatio" : Str).cps.size = 12 := by decide +kernel
    simp only [oddD, PyData.bulk, PyData.bulkAll, e]
    omega
section
variable {P : Program} {w : World} {K : PySem.W.Frag} {mg : Str → Option Value} {base : Heap} {C c tb : Addr} {cs : List Value}
theorem err_asked {Q : VK} {dd : Addr} {H' : Hp} {z : PyData} (own : OwnX K C) (exm : PySem.W.exmAny K (.ref C) cs = some true) (er : ErrD K H' dd [("code", .str "InvalidRatio"), ("given", z)])
    (q : ∀ (T : Addr) (G : Hp), Same H' G → Dp K G (.ref T) (.tuple [.str "InvalidRatio", z]) → Q (.ref T) G) : askX K cs Q (.ref C) (some dd) H' := by
  obtain ⟨fs, e1, e2⟩ := er
  obtain ⟨v1, l1, d1⟩ := e2.get (f := "code") (d := .str "InvalidRatio") rfl
  obtain ⟨v2, l2, d2⟩ := e2.get (f := "given") (d := z) rfl
  cases d1
  refine ⟨exm, "InvalidRatio", fs, [v2], ⟨⟨C, dd, rfl, own, rfl, e1⟩, l1, by decide +kernel⟩, ?_, by show 1 ≤ 1000; decide, fun T G sm ht => q T G sm (.tup ht (.cons (.str _) (.cons (Dp.same sm z v2 d2) .nil)))⟩
  have e : VG.fieldsOf "InvalidRatio" = [("given" : Str)] := by decide +kernel
  rw [e]
  show [fs.lookup ("given" : Str)] = [some v2]
  rw [l2]
theorem ask_fold {Q : VK} {H1 : Hp} {vs : List V} {ds : List PyData} {b : PyData} {step : Int × Int → PyData → Int × Int} {z : Int × Int} (own : OwnX K C) (exm : PySem.W.exmAny K (.ref C) cs = some true) (hd : DpAll K H1 vs ds) (hf : ∀ d ∈ ds, fit 2 d = true ∧ smaller 60 d) (h50 : ds.length ≤ 50) (hb : firstBad ds = some b)
    (q : ∀ (T : Addr) (G : Hp), Same H1 G → Dp K G (.ref T) (.tuple [.str "InvalidRatio", b]) → Q (.ref T) G) : spAll K C 2 step z vs H1 (askQ Q) (askX K cs Q) := by
  refine ⟨ds, hd, hf, h50, fun ok => ?_, fun b' hb' dd H' sm er => err_asked own exm er fun T G s2 hd => q T G (sm.trans s2) ?_⟩
  · rw [none_bad ok] at hb
    cases hb
  · rw [hb] at hb'
    cases hb'
    exact hd
theorem ask_less {Q : VK} {H1 : Hp} {x y : V} {d e b : PyData} (own : OwnX K C) (exm : PySem.W.exmAny K (.ref C) cs = some true) (hx : Dp K H1 x d) (hy : Dp K H1 y e) (fx : fit 2 d = true) (fy : fit 2 e = true) (s1 : smaller 60 d) (s2 : smaller 60 e) (hb : firstBad [d, e] = some b)
    (q : ∀ (T : Addr) (G : Hp), Same H1 G → Dp K G (.ref T) (.tuple [.str "InvalidRatio", b]) → Q (.ref T) G) : spLess K C 2 [x, y] H1 (askQ Q) (askX K cs Q) := by
  have up : ∀ {d : PyData}, smaller 60 d → smaller 1000 d := fun h => ⟨Nat.lt_of_lt_of_le h.1 (Nat.pow_le_pow_right (by decide) (by decide)), Nat.lt_of_lt_of_le h.2 (Nat.pow_le_pow_right (by decide) (by decide))⟩
  have eb : (if okR d = false then some d else if okR e = false then some e else none) = some b := by
    rw [← hb]
    unfold firstBad
    cases h1 : okR d <;> cases h2 : okR e <;> simp [h1, h2]
  refine ⟨x, y, d, e, rfl, hx, hy, fx, fy, up s1, up s2, fun o1 o2 => ?_, fun z hz dd H' sm er => err_asked own exm er fun T G s2 hd => q T G (sm.trans s2) ?_⟩
  · rw [o1, o2] at eb
    cases eb
  · rw [eb] at hz
    cases hz
    exact hd
theorem Src.off {p q D : Addr} {cells : List Int} {H : Hp} {o : HO} (h : Src H p q cells) (n1 : D ≠ p) (n2 : D ≠ q) : Src (upd H D o) p q cells := by
  obtain ⟨⟨i, c, sd, n, h1, h2, h3⟩, h4, h5, h6⟩ := h
  exact ⟨⟨i, c, sd, n, by rw [upd_ne n1.symm]; exact h1, h2, h3⟩, by rw [upd_ne n2.symm]; exact h4, h5, h6⟩
theorem PairF.off {p D : Addr} {H : Hp} {o : HO} {xs : List V} {v : V} {s : Int × Int} (hD : H D = some (.lst xs)) (h : PairF p H v s) : PairF p (upd H D o) v s := by
  obtain ⟨T, h1, h2, h3⟩ := h
  refine ⟨T, h1, h2, ?_⟩
  rw [upd_ne]
  · exact h3
  · intro e
    rw [e, hD] at h3
    cases h3
theorem PFs.off {p D : Addr} {H : Hp} {o : HO} {ys : List V} (hD : H D = some (.lst ys)) : ∀ {xs : List V} {ps : List (Int × Int)}, PFs p H xs ps → PFs p (upd H D o) xs ps
  | _, _, .nil => .nil
  | _, _, .cons h t => .cons (PairF.off hD h) (PFs.off hD t)
theorem BFs.off {p D : Addr} {H : Hp} {o : HO} {ys : List V} (hD : H D = some (.lst ys)) : ∀ {xs : List V} {ps : List (Int × Int)}, BFs p H xs ps → BFs p (upd H D o) xs ps
  | _, _, .nil => .nil
  | _, _, .cons h t => .cons (h.imp (PairF.off hD) id) (BFs.off hD t)
/-- the source and the table, as they stand between the statements -/
structure Gd (tb p q : Addr) (G : Hp) : Prop where
  src : ∃ cells, Src G p q cells
  tabs : Tabs [(tb, lamQ)] G
theorem Gd.same {tb p q : Addr} {G G' : Hp} (g : Gd tb p q G) (s : Same G G') : Gd tb p q G' := ⟨g.src.imp fun _ h => h.on s, g.tabs.ext s⟩
theorem Gd.grown {tb p q : Addr} {G G' : Hp} (g : Gd tb p q G) (s : ExtN G G') (t : Tabs [(tb, lamQ)] G') : Gd tb p q G' := by
  obtain ⟨cells, ⟨i, cc, sd, n, h1, h2, h3⟩, h4, h5, h6⟩ := g.src
  exact ⟨⟨cells, ⟨i, cc, sd, n, s _ _ h1 (fun _ z => by cases z), h2, h3⟩, s _ _ h4 (fun _ z => by cases z), h5, h6⟩, t⟩
theorem codeO_lst {c : Addr} {q : Str} (xs : List V) : CodeO c q ≠ .lst xs := fun z => by
  unfold CodeO at z
  cases z
theorem Gd.ex {tb p q : Addr} {G G' : Hp} {cells : List Int} (g : Gd tb p q G) (s : Ex p G G') (h : Src G' p q cells) : Gd tb p q G' := by
  obtain ⟨cells0, ⟨i, cc, sd, n, h1, _⟩, _⟩ := g.src
  refine ⟨⟨cells, h⟩, fun r hr => ?_⟩
  obtain ⟨ps, a1, a2, a3⟩ := g.tabs r hr
  refine ⟨ps, s _ _ (fun z => by rw [z, h1] at a1; cases a1) a1, a2, fun pos cv hc => ?_⟩
  obtain ⟨c0, b1, b2⟩ := a3 pos cv hc
  exact ⟨c0, b1, s _ _ (fun z => by rw [z, h1] at b2; exact codeO_lst _ (Option.some.inj b2).symm) b2⟩
theorem Gd.off {tb p q D : Addr} {G : Hp} {o : HO} {xs : List V} (g : Gd tb p q G) (hD : G D = some (.lst xs)) (n1 : D ≠ p) (n2 : D ≠ q) : Gd tb p q (upd G D o) := by
  refine ⟨g.src.imp fun _ h => h.off n1 n2, fun r hr => ?_⟩
  obtain ⟨ps, a1, a2, a3⟩ := g.tabs r hr
  refine ⟨ps, ?_, a2, fun pos cv hc => ?_⟩
  · rw [upd_ne (fun z => by rw [z, hD] at a1; cases a1)]
    exact a1
  · obtain ⟨c0, b1, b2⟩ := a3 pos cv hc
    refine ⟨c0, b1, ?_⟩
    rw [upd_ne (fun z => by rw [z, hD] at b2; exact codeO_lst _ (Option.some.inj b2).symm)]
    exact b2
end
end Lw

set_option maxRecDepth 100000
set_option linter.unusedVariables false
namespace Lw
open PySem PySem.Spec PyProof.Rows L2 VG LamX
section
variable {P : Program} {w : World} {K : PySem.W.Frag} {mg : Str → Option Value} {base : Heap}
theorem ok_law {f C c tb : Addr} {fd : FuncData} {cs : List Value} (F : Fun K "law" "law" sLaw f fd) (hc : fd.code = .ref c) (T : LawT P w K mg base C c tb cs) : FnG P w K mg base CX0 10 f fd ["_law_script"] (spLaw K tb) := by
  obtain ⟨fS, dS, GS⟩ := T.src
  obtain ⟨fD, dD, GD⟩ := T.draw
  obtain ⟨fO, dO, GO⟩ := T.of_
  obtain ⟨fE, dE, GE, mE, kE, bE⟩ := T.same
  obtain ⟨fW, dW, GW⟩ := T.wide
  obtain ⟨fB, dB, GB⟩ := T.bare
  obtain ⟨fX, dX, GX⟩ := T.times
  obtain ⟨fL, dL, GL⟩ := T.less2
  obtain ⟨fT, dT, GT⟩ := T.total
  obtain ⟨fP, dP, GP⟩ := T.sap
  obtain ⟨fA, GA⟩ := T.added
  obtain ⟨fM, GM⟩ := T.mult
  obtain ⟨fI, dI, GI, kI⟩ := T.less
  have LT := T
  refine okGC F scLaw hc (fun vs H Q E h => ?_) (fun A outer s H vs Q E hG hr h => ?_)
  · obtain ⟨a, ns, rfl, _⟩ := h
    rfl
  · obtain ⟨a, ns, rfl, hS, hlen, htb, k⟩ := h
    have nd := scLaw.nd
    have hr1 : Room 1 _ := hr.mono (by decide)
    have hr2 : Room 2 _ := hr.mono (by decide)
    have hr3 : Room 3 _ := hr.mono (by decide)
    have hr7 : Room 7 _ := hr.mono (by decide)
    have hr8 : Room 8 _ := hr.mono (by decide)
    refine ⟨_, pss_cons (ps_set (i := 1) nd rfl (Or.inr rfl) (pe_call GS.ok hr1 (by rfl) GS.at_ GS.kp GS.bd .nil pass0 (pa_cons (pv 0) pa_nil)))
      (pss_cons (ps_for PassesOwn.never rfl (pi_range1 (by rfl) T.rng (pa_cons pe_int pa_nil)) (pg_name (i := 2) nd rfl (Or.inl rfl))
        (C8.pss_cut (ps_setLc (i := 3) (own := [("_law_k", 4)]) (g := gName 4) (tt := tYes) (by rfl) nd rfl rfl (sw_true rfl rfl rfl (by decide +kernel)) (pi_range1 (by rfl) T.rng (pa_cons (pe_call GD.ok hr1 (by rfl) GD.at_ GD.kp GD.bd .nil pass0 (pa_cons (pv 1) (pa_cons pe_int pa_nil))) pa_nil))
            (blkOk_by (own := [("_law_k", 4)]) (N := NL) (sc := defScope sLaw) (by decide +kernel)) (fun _ _ _ _ _ => pg_name (i := 4) nd rfl (Or.inl rfl)) (fun _ _ _ _ _ => pts_nil)
            (fun _ _ _ _ _ => pe_call GW.ok hr2 (by rfl) GW.at_ GW.kp GW.bd .nil pass0 (pa_cons (pv 1) pa_nil)))
        (pss_cons (ps_set (i := 5) nd rfl (Or.inl rfl) (pe_tup (pa_cons pe_int (pa_cons pe_int pa_nil))))
        (C8.pss_cut (ps_for PassesOwn.never rfl (pi_list (pv 3)) (pg_name (i := 6) nd rfl (Or.inl rfl)) (pss_one (ps_set (i := 5) nd rfl (Or.inl rfl) (pe_call GX.ok hr2 (by rfl) GX.at_ GX.kp GX.bd .nil pass0 (pa_cons (pv 5) (pa_cons (pv 6) pa_nil))))))
        (C8.pss_cut (ps_if (pt_not (pt_val (pe_callG GE hG hr1 (by rfl) mE kE bE .nil pass0 (pa_cons (pe_call GP.ok hr8 (by rfl) GP.at_ GP.kp GP.bd .nil pass0 (pa_cons (pe_lc (own := [("_law_pair", 6)]) (g := gName 6) (tt := tYes) rfl nd (pi_list (pv 3))
              (blkOk_by (own := [("_law_pair", 6)]) (N := NL) (sc := defScope sLaw) (by decide +kernel)) (fun _ _ _ _ _ => pg_name (i := 6) nd rfl (Or.inl rfl)) (fun _ _ _ _ _ => pts_nil)
              (fun _ _ _ _ _ => pe_call GB.ok hr2 (by rfl) GB.at_ GB.kp GB.bd .nil pass0 (pa_cons (pv 1) (pa_cons (pv 6) pa_nil)))) pa_nil))
            (pa_cons (pe_lst (pa_cons (pe_call GT.ok hr3 (by rfl) GT.at_ GT.kp GT.bd .nil pass0 (pa_cons (pv 3) pa_nil)) (pa_cons (pv 5) pa_nil))) pa_nil))))) (pss_one (ps_ret pe_bl)) pss_nil)
        (C8.pss_cut (ps_par (i := 7) (j := 8) (by rfl) nd rfl rfl (by decide) rfl rfl (pa_cons (pe_call GW.ok hr2 (by rfl) GW.at_ GW.kp GW.bd .nil pass0 (pa_cons (pv 1) pa_nil)) (pa_cons (pe_call GW.ok hr2 (by rfl) GW.at_ GW.kp GW.bd .nil pass0 (pa_cons (pv 1) pa_nil)) pa_nil)) (by rfl))
        (pss_one (ps_if (pt_not (pt_val (pe_callG GE hG hr1 (by rfl) mE kE bE .nil pass0 (pa_cons (pe_lst (pa_cons (pe_call GI.ok hr7 (by rfl) GI.at_ GI.kp GI.bd .nil passF (pa_cons (pv 7) (pa_cons (pv 8) pa_nil))) (pa_cons (pe_callN0 GI.ok hr7 (by rfl) GI.at_ GI.kp kI passF (pk_cons (pv 7) (pk_cons (pv 8) pk_nil)))
              (pa_cons (pe_call GI.ok hr7 (by rfl) GI.at_ GI.kp GI.bd .nil passF (pa_cons (pv 7) (pa_cons (pv 7) pa_nil))) pa_nil))))
            (pa_cons (pe_lst (pa_cons (pe_call GL.ok hr1 (by rfl) GL.at_ GL.kp GL.bd .nil pass0 (pa_cons (pv 7) (pa_cons (pv 8) pa_nil))) (pa_cons (pe_call GL.ok hr1 (by rfl) GL.at_ GL.kp GL.bd .nil pass0 (pa_cons (pv 8) (pa_cons (pv 7) pa_nil))) (pa_cons pe_bl pa_nil)))) pa_nil))))) (pss_one (ps_ret pe_bl)) pss_nil))))))))
      (C8.pss_cut (ps_asg (pe_tup (pa_cons (pe_call GO.ok hr2 (by rfl) GO.at_ GO.kp GO.bd .nil pass0 (pa_cons (pv 1) (pa_cons (pe_lst (pa_cons pe_non (pa_cons pe_str (pa_cons (pe_tup (pa_cons pe_int (pa_cons pe_int pa_nil))) (pa_cons pe_bl pa_nil))))) pa_nil)))
          (pa_cons (pe_call GO.ok hr2 (by rfl) GO.at_ GO.kp GO.bd .nil pass0 (pa_cons (pv 1) (pa_cons (pe_lst (pa_cons (pe_lst (pa_cons pe_int (pa_cons pe_int pa_nil))) (pa_cons (pe_tup (pa_cons pe_int (pa_cons pe_int pa_nil))) (pa_cons pe_str pa_nil)))) pa_nil))) pa_nil)))
          (pg_tup (by rfl) (pgs_cons (pg_name (i := 9) nd rfl (Or.inr rfl)) (pgs_cons (pg_name (i := 10) nd rfl (Or.inr rfl)) pgs_nil))))
      (C8.pss_cut (ps_set (i := 11) nd rfl (Or.inl rfl) (pe_lst (pa_cons (pe_ask (X := XL P w K mg base f c A outer s H E) (k := 7) (t := fun E => fun σ H Q => tCons (tC (.int 1)) (tCons (tVar 9) (tCons (tVar 10) tNil)) σ H fun vs H1 => spAll K C 2 addS (0, 1) vs H1 Q E) T.ask rfl (by rfl) (by rfl) hr (lamS_by (sc := defScope sLaw) (by decide +kernel)) rfl (fun _ _ _ _ _ => rfl)
            (fun A2 outer2 s2 H2 E2 f2 c2 hr2 => pe_callR (E := E2) GA.ok hr2 GA.kp (by rfl) GA.at_ lam_passes (pa_cons pe_int (pa_cons (pv 9) (pa_cons (pv 10) pa_nil)))))
          (pa_cons (pe_ask0 (X := XL P w K mg base f c A outer s H E) (k := 7) (a := "_law_a") (z := 0) (t := fun E => fun σ H Q => tCons (tVar 9) (tCons (tC (.int 2)) (tCons (tVar 10) tNil)) σ H fun vs H1 => spAll K C 2 mulS (1, 1) vs H1 Q E) T.ask rfl (by rfl) (by rfl) hr (lamD_by (sc := defScope sLaw) (N := NL) (by decide +kernel)) rfl rfl
            (fun q cl pm cv ctv u D s2 hD => .of_defaults (T := D) rfl hD rfl rfl rfl)
            (fun A2 outer2 s2 H2 E2 f2 c2 hr2 => pe_callR (E := E2) GM.ok hr2 GM.kp (by rfl) GM.at_ lam_passes (pa_cons (pv 9) (pa_cons pe_int (pa_cons (pv 10) pa_nil)))))
          (pa_cons (pe_ask0 (X := XL P w K mg base f c A outer s H E) (k := 7) (a := "_law_b") (z := 0) (t := fun E => tCall (spLess K C 2) [] E (tCons (tVar 9) (tCons (tVar 10) tNil))) T.ask rfl (by rfl) (by rfl) hr (lamD_by (sc := defScope sLaw) (N := NL) (by decide +kernel)) rfl rfl
            (fun q cl pm cv ctv u D s2 hD => .of_defaults (T := D) rfl hD rfl rfl rfl)
            (fun A2 outer2 s2 H2 E2 f2 c2 hr2 => pe_call (E := E2) GI.ok hr2 (by rfl) GI.at_ GI.kp GI.bd .nil lam_passes (pa_cons (pv 9) (pa_cons (pv 10) pa_nil))))
          (pa_cons (pe_ask0 (X := XL P w K mg base f c A outer s H E) (k := 7) (a := "_law_c") (z := 0) (t := fun E => tCall (spLess K C 2) [] E (tCons (tC (.int 2)) (tCons (tVar 9) tNil))) T.ask rfl (by rfl) (by rfl) hr (lamD_by (sc := defScope sLaw) (N := NL) (by decide +kernel)) rfl rfl
            (fun q cl pm cv ctv u D s2 hD => .of_defaults (T := D) rfl hD rfl rfl rfl)
            (fun A2 outer2 s2 H2 E2 f2 c2 hr2 => pe_call (E := E2) GI.ok hr2 (by rfl) GI.at_ GI.kp GI.bd .nil lam_passes (pa_cons pe_int (pa_cons (pv 9) pa_nil)))) pa_nil))))))
      (C8.pss_cut (ps_if (pt_not (pt_val (pe_callG GE hG hr1 (by rfl) mE kE bE .nil pass0 (pa_cons (pe_lst (pa_cons (pe_callR GA.ok hr7 GA.kp (by rfl) GA.at_ passF (pa_cons pe_int (pa_cons pe_int (pa_cons pe_int (pa_cons pe_int (pa_cons (pe_tup (pa_cons pe_int (pa_cons pe_int pa_nil))) pa_nil))))))
            (pa_cons (pe_callR GM.ok hr7 GM.kp (by rfl) GM.at_ passF (pa_cons pe_int (pa_cons pe_int (pa_cons pe_int (pa_cons pe_int (pa_cons (pe_tup (pa_cons pe_int (pa_cons pe_int pa_nil))) pa_nil)))))) pa_nil)))
            (pa_cons (pe_lst (pa_cons (pe_tup (pa_cons pe_int (pa_cons pe_int pa_nil))) (pa_cons (pe_tup (pa_cons pe_int (pa_cons pe_int pa_nil))) pa_nil))) pa_nil))))) (pss_one (ps_ret pe_bl)) pss_nil)
      (pss_one (ps_ret (pe_and (pe_callG GE hG hr1 (by rfl) mE kE bE .nil pass0 (pa_cons (pv 11) (pa_cons (pe_op op_rep (pe_lst (pa_cons (pe_tup (pa_cons pe_str (pa_cons (pv 9) pa_nil))) pa_nil)) pe_int) pa_nil)))
        (pe_one (pe_cmpR op_isBl (pe_call GI.ok hr7 (by rfl) GI.at_ GI.kp GI.bd .nil passF (pa_cons (pe_un un_neg pe_int) (pa_cons (pe_tup (pa_cons (pe_un un_neg pe_int) (pa_cons pe_int pa_nil))) pa_nil))) pe_bl (nomark _)))))))))), ?_⟩
    refine ⟨_, rfl, a, ns, rfl, hS, hlen, fun p q H1 hp0 hq0 sm1 S1 => ?_⟩
    have tb1 : Tabs [(tb, lamQ)] H1 := fun r hr => by
      rw [List.mem_singleton.mp hr]
      exact TabS.nil (sm1 _ _ htb)
    have two : (2 : Nat) ≤ sizeLine := by decide
    have three : (3 : Nat) ≤ sizeLine := by decide
    have four : (4 : Nat) ≤ sizeLine := by decide
    have up : ∀ {d : PyData}, smaller 60 d → smaller 1000 d := fun h => ⟨Nat.lt_of_lt_of_le h.1 (Nat.pow_le_pow_right (by decide) (by decide)), Nat.lt_of_lt_of_le h.2 (Nat.pow_le_pow_right (by decide) (by decide))⟩
    have up2 : ∀ {s : Int × Int}, Good s → s.1.natAbs < 2 ^ 2000 ∧ s.2.natAbs < 2 ^ 2000 := fun h => ⟨(small_more h.small).1, (small_more h.small).2.1⟩
    have okg : ∀ {s : Int × Int}, Good s → okR (ratT s) = true := fun h => by unfold okR; rw [h.1, Bool.or_true]
    refine ⟨6, rfl, by decide, by decide, for_range (lo := 0) (n := 6) (fun i σ G => ∃ o2 o3 o4 o5 o6 o7 o8 : Option V, σ = [some (.ref a), some (.ref p), o2, o3, o4, o5, o6, o7, o8, none, none, none] ∧ Gd tb p q G)
      ⟨none, none, none, none, none, none, none, rfl, ⟨_, S1⟩, tb1⟩ ?_ ?_⟩
    · rintro i σ G hi ⟨o2, o3, o4, o5, o6, o7, o8, rfl, g0⟩
      -- the pairs
      refine ⟨fun σ G => ∃ (l : Addr) (xs : List V) (ps : List (Int × Int)) (o2 o4 o5 o6 o7 o8 : Option V), σ = [some (.ref a), some (.ref p), o2, some (.ref l), o4, o5, o6, o7, o8, none, none, none] ∧ l ≠ p ∧ G l = some (.lst xs) ∧ PFs p G xs ps ∧ (∀ s ∈ ps, Good s) ∧ ps.length ≤ 3 ∧ Gd tb p q G, ?_, ?_⟩
      · obtain ⟨cells, S0⟩ := g0.src
        refine ⟨_, rfl, p, q, cells, 4, rfl, S0, by decide, by decide, fun d Ga a1 c1 Sa Ba => ?_⟩
        refine ⟨d, rfl, by omega, by omega, fun D hD => ?_⟩
        have gA := g0.ex (Ex.of Ba) Sa
        have nDp : D ≠ p := fun z => by
          obtain ⟨u, hu⟩ := Sa.at'
          rw [← z, hD] at hu
          cases hu
        have nDq : D ≠ q := fun z => by
          have hu := Sa.cs
          rw [← z, hD] at hu
          cases hu
        refine lc_range (lo := 0) (n := d.toNat) (fun i G' => ∃ (xs : List V) (ps : List (Int × Int)), G' D = some (.lst xs) ∧ ps.length = i ∧ PFs p G' xs ps ∧ (∀ s ∈ ps, Good s) ∧ Src G' p q cells ∧ Gd tb p q G')
          ⟨[], [], upd_same, rfl, .nil, (fun _ h => by cases h), Sa.on (same_upd hD), gA.same (same_upd hD)⟩ ?_ ?_
        · rintro i G' hi ⟨xs, ps, hx, hl, hP, hg, hS', gg⟩
          refine ⟨rfl, ?_⟩
          refine ⟨_, rfl, p, q, cells, rfl, hS', fun v s G2 hv rv bv S2 X2 => ⟨xs, X2 _ _ nDp hx, ?_, ?_⟩⟩
          · rw [hP.len, hl]
            exact Nat.lt_of_lt_of_le (show i < 4 by omega) (by decide)
          · have hx2 := X2 _ _ nDp hx
            refine ⟨xs ++ [v], ps ++ [s], upd_same, by rw [List.length_append, hl]; rfl, Paired.snoc (PFs.off hx2 (hP.ex X2)) (hv.off hx2), fun t ht => ?_, S2.off nDp nDq, (gg.ex X2 S2).off hx2 nDp nDq⟩
            rcases List.mem_append.mp ht with ht | ht
            · exact hg t ht
            · rw [List.mem_singleton.mp ht]
              exact good_of rv bv
        · rintro G' ⟨xs, ps, hx, hl, hP, hg, hS', gg⟩
          exact ⟨D, xs, ps, _, _, _, _, _, _, rfl, nDp, hx, hP, hg, by omega, gg⟩
      clear g0
      rintro σ G ⟨l, xs, ps, o2, o4, o5, o6, o7, o8, rfl, nl, hl, hP, hg, h3, g1⟩
      refine ⟨two, fun Z hZ => ?_⟩
      have mZ := same_upd (o := .tup [.int 1, .int 1]) hZ
      -- the product
      refine ⟨fun σ G => ∃ (T : Addr) (o2 o4 o6 o7 o8 : Option V), σ = [some (.ref a), some (.ref p), o2, some (.ref l), o4, some (.ref T), o6, o7, o8, none, none, none] ∧ G T = some (.tup [.int (ps.foldl mulP (1, 1)).1, .int (ps.foldl mulP (1, 1)).2]) ∧ G l = some (.lst xs) ∧ PFs p G xs ps ∧ Gd tb p q G, ?_, ?_⟩
      · refine ⟨_, rfl, l, rfl, ⟨xs, SqL.of (mZ _ _ hl)⟩, for_list (K := K) (a := l) (xs := xs) (fun i σ G' => ∃ (T : Addr) (o2 o4 o6 o7 o8 : Option V), σ = [some (.ref a), some (.ref p), o2, some (.ref l), o4, some (.ref T), o6, o7, o8, none, none, none] ∧ Same G G' ∧ G' T = some (.tup [.int ((ps.take i).foldl mulP (1, 1)).1, .int ((ps.take i).foldl mulP (1, 1)).2]) ∧ Sum i ((ps.take i).foldl mulP (1, 1)))
          ⟨Z, _, _, _, _, _, rfl, mZ, upd_same, (⟨by decide, by decide, by decide⟩ : Sum 0 (1, 1))⟩ (fun i σ G' _ ⟨_, _, _, _, _, _, _, sm, _⟩ => SqL.of (sm _ _ hl)) ?_ ?_⟩
        · rintro i v σ G' hv ⟨T, o2, o4, o6, o7, o8, rfl, sm, hT, hS⟩
          obtain ⟨t, ht, hvt⟩ := hP.get hv
          have hi : i < ps.length := (List.getElem?_eq_some_iff.mp ht).1
          have et : ps.take (i + 1) = ps.take i ++ [t] := by
            rw [List.take_add_one, ht]
            rfl
          have gt := hg t (List.mem_of_getElem? ht)
          refine ⟨_, rfl, _, rfl, _, _, (ps.take i).foldl mulP (1, 1), t, rfl, ⟨T, rfl, SqT.of hT⟩, (hvt.ex (Ex.sm sm)).at_, sum_small hS (by omega), small_more gt.small, fun T2 G2 m2 h2 => ?_⟩
          refine ⟨T2, _, _, _, _, _, rfl, sm.trans m2, ?_, ?_⟩
          · rw [et, List.foldl_append]
            exact h2
          · rw [et, List.foldl_append]
            exact mulP_sum hS gt.small
        · rintro σ G' ⟨T, o2, o4, o6, o7, o8, rfl, sm, hT, hS⟩
          rw [hP.len, List.take_length] at hT
          exact ⟨T, _, _, _, _, _, rfl, hT, sm _ _ hl, hP.ex (Ex.sm sm), g1.same sm⟩
      clear g1 hP hl mZ hZ
      rintro σ G ⟨T, o2, o4, o6, o7, o8, rfl, hT, hl, hP, g1⟩
      have nT : T ≠ p := fun z => by
        obtain ⟨cells, S0⟩ := g1.src
        obtain ⟨_, _, _, _, hu, _⟩ := S0.ex
        rw [← z, hT] at hu
        cases hu
      -- the sums, the products
      refine ⟨fun σ G => ∃ o2 o3 o4 o5 o6 o7 o8 : Option V, σ = [some (.ref a), some (.ref p), o2, o3, o4, o5, o6, o7, o8, none, none, none] ∧ Gd tb p q G, ?_, ?_⟩
      · refine ⟨_, rfl, l, rfl, ⟨xs, SqL.of hl⟩, fun D hD => ?_⟩
        obtain ⟨cells, S0⟩ := g1.src
        have nDp : D ≠ p := fun z => by
          obtain ⟨u, hu⟩ := S0.at'
          rw [← z, hD] at hu
          cases hu
        have nDq : D ≠ q := fun z => by
          have hu := S0.cs
          rw [← z, hD] at hu
          cases hu
        have nDl : l ≠ D := fun z => by
          rw [z, hD] at hl
          cases hl
        have nDT : T ≠ D := fun z => by
          rw [z, hD] at hT
          cases hT
        have mD := same_upd (o := .lst []) hD
        refine lc_list (K := K) (a := l) (xs := xs) (fun i G' => ∃ ys : List V, G' D = some (.lst ys) ∧ ys.length = i ∧ BFs p G' ys (ps.take i) ∧ G' l = some (.lst xs) ∧ G' T = some (.tup [.int (ps.foldl mulP (1, 1)).1, .int (ps.foldl mulP (1, 1)).2]) ∧ PFs p G' xs ps ∧ Src G' p q cells ∧ Gd tb p q G')
          ⟨[], upd_same, rfl, .nil, mD _ _ hl, mD _ _ hT, hP.ex (Ex.sm mD), S0.on mD, g1.same mD⟩ (fun i G' _ ⟨ys, _, _, _, h, _⟩ => SqL.of h) ?_ ?_
        · rintro i v G' hv ⟨ys, hy, yl, hB, hl', hT', hP', S', g'⟩
          obtain ⟨t, ht, T0, rfl, n0, h0⟩ := hP'.get hv
          have hi : i < ps.length := (List.getElem?_eq_some_iff.mp ht).1
          have et : ps.take (i + 1) = ps.take i ++ [t] := by
            rw [List.take_add_one, ht]
            rfl
          refine ⟨rfl, ?_⟩
          refine ⟨_, rfl, _, rfl, p, q, cells, T0, t, rfl, S', n0, SqT.of h0, fun x G3 hx S3 B3 => ?_⟩
          have X3 := Ex.of B3
          have hy3 := X3 _ _ nDp hy
          refine ⟨ys, hy3, ?_, ys ++ [x], upd_same, by rw [List.length_append, yl]; rfl, ?_, ?_, ?_, PFs.off hy3 (hP'.ex X3), S3.off nDp nDq, (g'.ex X3 S3).off hy3 nDp nDq⟩
          · rw [yl]
            exact Nat.lt_of_lt_of_le (show i < 4 by omega) (by decide)
          · rw [et]
            refine Paired.snoc (BFs.off hy3 (hB.ex X3)) ?_
            rcases hx with hx | hx
            · subst hx
              exact .inl (PairF.off hy3 ⟨T0, rfl, n0, X3 _ _ n0 h0⟩)
            · exact .inr hx
          · rw [upd_ne nDl]
            exact X3 _ _ nl hl'
          · rw [upd_ne nDT]
            exact X3 _ _ nT hT'
        · rintro G' ⟨ys, hy, yl, hB, hl', hT', hP', S', g'⟩
          rw [hP.len, List.take_length] at hB
          obtain ⟨ds, d1, d2, d3⟩ := hB.dat (K := K) hg
          have dl : ds.length ≤ 3 := by
            rw [← d2, List.length_map] at h3
            exact h3
          refine ⟨D, ys, ds, rfl, SqL.of hy, d1, d3, dl, fun L T1 T2 G4 m4 hL e1 e2 => ?_⟩
          refine ⟨_, rfl, l, xs, ps, rfl, SqL.of (m4 _ _ hl'), (hP'.ex (Ex.sm m4)).pairs, fun s hs => (hg s hs).small, by omega, fun T5 G5 m5 e5 => ⟨_, rfl, two, fun L2 hL2 => ?_⟩⟩
          have m6 := same_upd (o := .lst [.ref T5, .ref T]) hL2
          rw [fold_add, d2] at e1
          rw [fold_mul, d2] at e2
          have z0 : Sum 0 ((0 : Int), (1 : Int)) := ⟨by decide, by decide, by decide⟩
          have z1 : Sum 0 ((1 : Int), (1 : Int)) := ⟨by decide, by decide, by decide⟩
          have sA := (sum_fold ps 0 (0, 1) z0 hg).sm (by omega)
          have sB := (mul_fold ps 0 (1, 1) z1 hg).sm (by omega)
          generalize ps.foldl addP (0, 1) = A at *
          generalize ps.foldl mulP (1, 1) = B at *
          have pr : ∀ {H' : Hp} {T : Addr} {s : Int × Int}, SqT K H' T [.int s.1, .int s.2] → Dp K H' (.ref T) (ratT s) := fun h => .tup h (.cons (.int _) (.cons (.int _) .nil))
          have eq : decide ((PyData.list [ratT A, ratT B]).shown = (PyData.list [ratT A, ratT B]).shown) = true := decide_eq_true rfl
          refine ⟨.ref L, .ref L2, .list [ratT A, ratT B], .list [ratT A, ratT B], rfl, .lst ((m5.trans m6).seq hL) (.cons (pr (Same.tup (m5.trans m6) e1)) (.cons (pr (Same.tup (m5.trans m6) e2)) .nil)),
            .lst (SqL.of upd_same) (.cons (pr (SqT.of (m6 _ _ e5))) (.cons (pr (SqT.of ((m4.trans (m5.trans m6)) _ _ hT'))) .nil)), two_sm sA sB, two_sm sA sB, _, rfl, ?_⟩
          rw [eq]
          exact iteF ⟨_, _, _, _, _, _, _, rfl, g'.same (m4.trans (m5.trans m6))⟩
      clear g1 hP hl hT nT
      rintro σ G ⟨o2, o3, o4, o5, o6, o7, o8, rfl, g1⟩
      -- one, other
      refine ⟨fun σ G => ∃ (x y : V) (s t : Int × Int) (o2 o3 o4 o5 o6 : Option V), σ = [some (.ref a), some (.ref p), o2, o3, o4, o5, o6, some x, some y, none, none, none] ∧ PairF p G x s ∧ PairF p G y t ∧ Good s ∧ Good t ∧ Gd tb p q G, ?_, ?_⟩
      · obtain ⟨cells, S0⟩ := g1.src
        refine ⟨_, rfl, p, q, cells, rfl, S0, fun x s Ga hx rx bx Sa Xa => ?_⟩
        refine ⟨_, rfl, p, q, cells, rfl, Sa, fun y t Gb hy ry b_y Sb Xb => ⟨_, _, rfl, ?_⟩⟩
        exact ⟨x, y, s, t, _, _, _, _, _, rfl, hx.ex Xb, hy, good_of rx bx, good_of ry b_y, (g1.ex Xa Sa).ex Xb Sb⟩
      clear g1
      rintro σ G ⟨x, y, s, t, o2, o3, o4, o5, o6, rfl, hx, hy, gs, gt, g1⟩
      have sms : ∀ {s : Int × Int}, Good s → smaller 1000 (ratT s) := fun h => up ⟨h.2.1, h.2.2.1⟩
      refine ⟨_, rfl, _, rfl, x, y, ratT s, ratT t, rfl, hx.dp, hy.dp, rfl, rfl, sms gs, sms gt, fun _ _ Ga m1 => ?_, fun z hz => by rw [okg gs, okg gt] at hz; cases hz⟩
      refine ⟨_, rfl, _, rfl, rfl, rfl, y, x, ratT t, ratT s, rfl, (hy.ex (Ex.sm m1)).dp, (hx.ex (Ex.sm m1)).dp, rfl, rfl, sms gt, sms gs, fun _ _ Gb m2 => ?_, fun z hz => by rw [okg gs, okg gt] at hz; cases hz⟩
      have m12 := m1.trans m2
      refine ⟨_, rfl, _, rfl, x, x, ratT s, ratT s, rfl, (hx.ex (Ex.sm m12)).dp, (hx.ex (Ex.sm m12)).dp, rfl, rfl, sms gs, sms gs, fun _ _ Gc m3 => ⟨three, fun L1 hL1 => ?_⟩, fun z hz => by rw [okg gs] at hz; cases hz⟩
      have m123 := m12.trans m3
      have m4 := same_upd (o := .lst [.bl (decide (s.1 * t.2 < t.1 * s.2)), .bl (decide (t.1 * s.2 < s.1 * t.2)), .bl (decide (s.1 * s.2 < s.1 * s.2))]) hL1
      have mA := m123.trans m4
      have ax := (hx.ex (Ex.sm mA)).at_ (K := K)
      have ay := (hy.ex (Ex.sm mA)).at_ (K := K)
      refine ⟨_, rfl, _, rfl, x, y, s, t, rfl, ax, ay, up2 gs, up2 gt, ?_⟩
      refine ⟨_, rfl, _, rfl, y, x, t, s, rfl, ay, ax, up2 gt, up2 gs, three, fun L2 hL2 => ?_⟩
      have m5 := same_upd (o := .lst [.bl (decide (s.1 * t.2 < t.1 * s.2)), .bl (decide (t.1 * s.2 < s.1 * t.2)), .bl false]) hL2
      have nl : decide (s.1 * s.2 < s.1 * s.2) = false := decide_eq_false (Int.lt_irrefl _)
      have hb3 : ∀ H : Hp, Dp K H (.bl (decide (s.1 * s.2 < s.1 * s.2))) (.bool false) := fun H => by
        rw [nl]
        exact .bl _
      have eq : decide ((PyData.list [.bool (decide (s.1 * t.2 < t.1 * s.2)), .bool (decide (t.1 * s.2 < s.1 * t.2)), .bool false]).shown = (PyData.list [.bool (decide (s.1 * t.2 < t.1 * s.2)), .bool (decide (t.1 * s.2 < s.1 * t.2)), .bool false]).shown) = true := decide_eq_true rfl
      refine ⟨.ref L1, .ref L2, .list [.bool (decide (s.1 * t.2 < t.1 * s.2)), .bool (decide (t.1 * s.2 < s.1 * t.2)), .bool false], .list [.bool (decide (s.1 * t.2 < t.1 * s.2)), .bool (decide (t.1 * s.2 < s.1 * t.2)), .bool false], rfl, .lst (SqL.of (m5 _ _ upd_same)) (.cons (.bl _) (.cons (.bl _) (.cons (hb3 _) .nil))), .lst (SqL.of upd_same) (.cons (.bl _) (.cons (.bl _) (.cons (.bl _) .nil))), bools_sm _ _ _, bools_sm _ _ _, _, rfl, ?_⟩
      rw [eq]
      exact iteF ⟨_, _, _, _, _, _, _, rfl, (g1.same mA).same m5⟩
    · rintro σ G ⟨o2, o3, o4, o5, o6, o7, o8, rfl, g0⟩
      -- odd, bad
      refine ⟨fun σ G => ∃ (x y : V) (d e : PyData) (o2 o3 o4 o5 o6 o7 o8 : Option V), σ = [some (.ref a), some (.ref p), o2, o3, o4, o5, o6, o7, o8, some x, some y, none] ∧ Dp K G x d ∧ Dp K G y e ∧ fit 2 d = true ∧ fit 2 e = true ∧ okR d = false ∧ smaller 60 d ∧ smaller 60 e ∧ (VG.sm d = true ∧ d.depth ≤ 5 ∧ d.bulk ≤ 100) ∧ Gd tb p q G, ?_, ?_⟩
      · obtain ⟨cells, S0⟩ := g0.src
        have ne : ∀ {G' : Hp} {u : Addr}, Same G G' → G' u = none → u ≠ p := fun {G' u} s e z => by
          obtain ⟨⟨i, cc, sd, n, h1, _⟩, _⟩ := S0.on s
          rw [z, h1] at e
          cases e
        refine ⟨_, rfl, two, fun a1 h1 => ⟨four, fun u hu => ?_⟩⟩
        have m1 := same_upd (o := .tup [.int 2, .int 2]) h1
        have mu := same_upd (o := .lst [.non, .str "1", .ref a1, .bl true]) hu
        have m1u := m1.trans mu
        refine ⟨p, q, cells, .ref u, rfl, S0.on m1u, .inl ⟨u, _, rfl, fun H' B => .inl (SqL.of ((B u (ne m1 hu)).trans upd_same)), by show 0 < 4; decide, by show 4 < 1000000; decide, fun i x H4 hx S4 B4 => ?_⟩⟩
        have b1 : H4 a1 = some (.tup [.int 2, .int 2]) := (B4 a1 (ne (Same.refl G) h1)).trans (mu _ _ upd_same)
        have n1 : newer G H4 a1 = some (.tup [.int 2, .int 2]) := (newer_at h1).trans b1
        have key : ∃ d, Dp K (newer G H4) x d ∧ fit 2 d = true ∧ okR d = false ∧ smaller 60 d ∧ (VG.sm d = true ∧ d.depth ≤ 5 ∧ d.bulk ≤ 100) := by
          match i, hx with
          | 0, e => cases e; exact ⟨.none, .non, by decide +kernel, by decide +kernel, ⟨by decide +kernel, by decide +kernel⟩, ⟨by decide +kernel, by decide +kernel, by decide +kernel⟩⟩
          | 1, e => cases e; exact ⟨.str "1", .str _, by decide +kernel, by decide +kernel, ⟨by decide +kernel, by decide +kernel⟩, ⟨by decide +kernel, by decide +kernel, by decide +kernel⟩⟩
          | 2, e => cases e; exact ⟨.tuple [.int 2, .int 2], .tup (SqT.of n1) (.cons (.int _) (.cons (.int _) .nil)), by decide +kernel, by decide +kernel, ⟨by decide +kernel, by decide +kernel⟩, ⟨by decide +kernel, by decide +kernel, by decide +kernel⟩⟩
          | 3, e => cases e; exact ⟨.bool true, .bl _, by decide +kernel, by decide +kernel, ⟨by decide +kernel, by decide +kernel⟩, ⟨by decide +kernel, by decide +kernel, by decide +kernel⟩⟩
          | n + 4, e => cases e
        obtain ⟨d, hxd, fd', od, sd, smd⟩ := key
        have X4 : Ex p G H4 := (Ex.sm m1u).trans (Ex.of B4)
        have g4 := g0.ex X4 S4
        have ne4 : ∀ {G' : Hp} {u : Addr}, Same H4 G' → G' u = none → u ≠ p := fun {G' u} s e z => by
          obtain ⟨⟨i, cc, sd, n, h1, _⟩, _⟩ := S4.on s
          rw [z, h1] at e
          cases e
        refine ⟨_, rfl, two, fun c1 k1 => ⟨two, fun c2 k2 => ⟨three, fun v kv => ?_⟩⟩⟩
        have l1 := same_upd (o := .lst [.int 1, .int 1]) k1
        have l2 := same_upd (o := .tup [.int 1, .int 0]) k2
        have lv := same_upd (o := .lst [.ref c1, .ref c2, .str "x"]) kv
        have l12 := l1.trans l2
        have lA := l12.trans lv
        refine ⟨p, q, cells, .ref v, rfl, S4.on lA, .inl ⟨v, _, rfl, fun H' B => .inl (SqL.of ((B v (ne4 l12 kv)).trans upd_same)), by show 0 < 3; decide, by show 3 < 1000000; decide, fun j y H5 hy S5 B5 => ?_⟩⟩
        have e1 : H5 c1 = some (.lst [.int 1, .int 1]) := (B5 c1 (ne4 (Same.refl H4) k1)).trans ((l2.trans lv) _ _ upd_same)
        have e2 : H5 c2 = some (.tup [.int 1, .int 0]) := (B5 c2 (ne4 l1 k2)).trans (lv _ _ upd_same)
        have key : ∃ e, Dp K H5 y e ∧ fit 2 e = true ∧ smaller 60 e := by
          match j, hy with
          | 0, e => cases e; exact ⟨.list [.int 1, .int 1], .lst (SqL.of e1) (.cons (.int _) (.cons (.int _) .nil)), by decide +kernel, ⟨by decide +kernel, by decide +kernel⟩⟩
          | 1, e => cases e; exact ⟨.tuple [.int 1, .int 0], .tup (SqT.of e2) (.cons (.int _) (.cons (.int _) .nil)), by decide +kernel, ⟨by decide +kernel, by decide +kernel⟩⟩
          | 2, e => cases e; exact ⟨.str "x", .str _, by decide +kernel, ⟨by decide +kernel, by decide +kernel⟩⟩
          | n + 3, e => cases e
        obtain ⟨e, hye, fe, se⟩ := key
        have X5 : Ex p H4 H5 := (Ex.sm lA).trans (Ex.of B5)
        refine ⟨two, fun T hT => ?_⟩
        have mT := same_upd (o := .tup [x, y]) hT
        refine ⟨T, _, rfl, SqT.of upd_same, rfl, _, _, rfl, _, _, rfl, rfl, ?_⟩
        exact ⟨x, y, d, e, _, _, _, _, _, _, _, rfl, Dp.same ((newer_sub (H := G)).trans mT) _ _ (Dp.same (newer_ex S0 X5) _ _ hxd), Dp.same mT _ _ hye, fd', fe, od, sd, se, smd, (g4.ex X5 S5).same mT⟩
      clear g0
      rintro σ G ⟨x, y, d, e, o2, o3, o4, o5, o6, o7, o8, rfl, hx, hy, fd', fe, od, sd, se, smd, g0⟩
      have s1 : smaller 60 (.int 1) := ⟨by decide, by decide⟩
      have s2 : smaller 60 (.int 2) := ⟨by decide, by decide⟩
      -- the four questions
      refine ⟨fun σ G => ∃ (L : Addr) (o2 o3 o4 o5 o6 o7 o8 : Option V), σ = [some (.ref a), some (.ref p), o2, o3, o4, o5, o6, o7, o8, some x, some y, some (.ref L)] ∧ Dp K G x d ∧ Dp K G (.ref L) (oddD d), ?_, ?_⟩
      · have fb1 : firstBad [.int 1, d, e] = some d := by
          unfold firstBad
          simp [od, show okR (.int 1) = true from rfl]
        have fb2 : firstBad [d, .int 2, e] = some d := by
          unfold firstBad
          simp [od]
        have fb3 : firstBad [d, e] = some d := by
          unfold firstBad
          simp [od]
        have fb4 : firstBad [.int 2, d] = some d := by
          unfold firstBad
          simp [od, show okR (.int 2) = true from rfl]
        refine ⟨g0.tabs, fun H2 x2 t2 => ⟨_, rfl, _, rfl, ask_fold T.own T.exm (.cons (.int 1) (.cons (Dp.grown x2 hx) (.cons (Dp.grown x2 hy) .nil))) (fun z hz => ?_) (by show 3 ≤ 50; decide) fb1 fun T2 G2 s2' d2 => ?_⟩⟩
        · simp only [List.mem_cons, List.not_mem_nil, or_false] at hz
          rcases hz with rfl | rfl | rfl
          · exact ⟨rfl, s1⟩
          · exact ⟨fd', sd⟩
          · exact ⟨fe, se⟩
        have hx2 := Dp.same s2' _ _ (Dp.grown x2 hx)
        have hy2 := Dp.same s2' _ _ (Dp.grown x2 hy)
        have g2 := (g0.grown x2 t2).same s2'
        refine ⟨g2.tabs, fun H3 x3 t3 => ⟨_, rfl, _, rfl, ask_fold T.own T.exm (.cons (Dp.grown x3 hx2) (.cons (.int 2) (.cons (Dp.grown x3 hy2) .nil))) (fun z hz => ?_) (by show 3 ≤ 50; decide) fb2 fun T3 G3 s3 d3 => ?_⟩⟩
        · simp only [List.mem_cons, List.not_mem_nil, or_false] at hz
          rcases hz with rfl | rfl | rfl
          · exact ⟨fd', sd⟩
          · exact ⟨rfl, s2⟩
          · exact ⟨fe, se⟩
        have hx3 := Dp.same s3 _ _ (Dp.grown x3 hx2)
        have hy3 := Dp.same s3 _ _ (Dp.grown x3 hy2)
        have g3 := (g2.grown x3 t3).same s3
        refine ⟨g3.tabs, fun H4 x4 t4 => ⟨_, rfl, _, rfl, ask_less T.own T.exm (Dp.grown x4 hx3) (Dp.grown x4 hy3) fd' fe sd se fb3 fun T4 G4 s4 d4 => ?_⟩⟩
        have hx4 := Dp.same s4 _ _ (Dp.grown x4 hx3)
        have g4 := (g3.grown x4 t4).same s4
        refine ⟨g4.tabs, fun H5 x5 t5 => ⟨_, rfl, ask_less T.own T.exm (.int 2) (Dp.grown x5 hx4) rfl fd' s2 sd fb4 fun T5 G5 s5 d5 => ⟨four, fun L hL => ?_⟩⟩⟩
        have hx5 := Dp.same s5 _ _ (Dp.grown x5 hx4)
        have mL := same_upd (o := .lst [.ref T2, .ref T3, .ref T4, .ref T5]) hL
        have d4' := Dp.same s5 _ _ (Dp.grown x5 d4)
        have d3' := Dp.same s5 _ _ (Dp.grown x5 (Dp.same s4 _ _ (Dp.grown x4 d3)))
        have d2' := Dp.same s5 _ _ (Dp.grown x5 (Dp.same s4 _ _ (Dp.grown x4 (Dp.same s3 _ _ (Dp.grown x3 d2)))))
        exact ⟨L, _, _, _, _, _, _, _, rfl, Dp.same mL _ _ hx5, .lst (SqL.of upd_same) (.cons (Dp.same mL _ _ d2') (.cons (Dp.same mL _ _ d3') (.cons (Dp.same mL _ _ d4') (.cons (Dp.same mL _ _ d5) .nil))))⟩
      clear g0 hx hy
      rintro σ G ⟨L, o2, o3, o4, o5, o6, o7, o8, rfl, hx, hL⟩
      have pr : ∀ {H' : Hp} {T : Addr} {i j : Int}, SqT K H' T [.int i, .int j] → Dp K H' (.ref T) (.tuple [.int i, .int j]) := fun h => .tup h (.cons (.int _) (.cons (.int _) .nil))
      have one : (1 : Nat) ≤ sizeLine := by decide
      -- five written values
      refine ⟨fun σ G => ∃ (o2 o3 o4 o5 o6 o7 o8 : Option V), σ = [some (.ref a), some (.ref p), o2, o3, o4, o5, o6, o7, o8, some x, some y, some (.ref L)] ∧ Dp K G x d ∧ Dp K G (.ref L) (oddD d), ?_, ?_⟩
      · have five : ∀ z ∈ [PyData.int 1, .int 2, .int 3, .int 4, .tuple [.int 1, .int 2]], fit 2 z = true ∧ smaller 60 z := fun z hz => by
          simp only [List.mem_cons, List.not_mem_nil, or_false] at hz
          rcases hz with rfl | rfl | rfl | rfl | rfl <;> exact ⟨by decide +kernel, ⟨by decide +kernel, by decide +kernel⟩⟩
        have nb : firstBad [PyData.int 1, .int 2, .int 3, .int 4, .tuple [.int 1, .int 2]] = none := by
          unfold firstBad
          decide +kernel
        have eA : [PyData.int 1, .int 2, .int 3, .int 4, .tuple [.int 1, .int 2]].foldl addS (0, 1) = (21, 2) := by decide +kernel
        have eM : [PyData.int 1, .int 2, .int 3, .int 4, .tuple [.int 1, .int 2]].foldl mulS (1, 1) = (12, 1) := by decide +kernel
        refine ⟨two, fun a1 h1 => ⟨_, .cons (.int 1) (.cons (.int 2) (.cons (.int 3) (.cons (.int 4) (.cons (pr (SqT.of upd_same)) .nil)))), five, by show 5 ≤ 50; decide, fun _ T1 Ga ma ta => ?_, fun b hb => by rw [nb] at hb; cases hb⟩⟩
        refine ⟨two, fun a2 h2 => ⟨_, .cons (.int 1) (.cons (.int 2) (.cons (.int 3) (.cons (.int 4) (.cons (pr (SqT.of upd_same)) .nil)))), five, by show 5 ≤ 50; decide, fun _ T2 Gb mb tb2 => ⟨two, fun L1 hL1 => ?_⟩, fun b hb => by rw [nb] at hb; cases hb⟩⟩
        refine ⟨two, fun c1 k1 => ⟨two, fun c2 k2 => ⟨two, fun L2 kL => ?_⟩⟩⟩
        rw [eA] at ta
        rw [eM] at tb2
        have m1 := same_upd (o := .tup [.int 1, .int 2]) h1
        have m2 := same_upd (o := .tup [.int 1, .int 2]) h2
        have m3 := same_upd (o := .lst [.ref T1, .ref T2]) hL1
        have m4 := same_upd (o := .tup [.int 21, .int 2]) k1
        have m5 := same_upd (o := .tup [.int 12, .int 1]) k2
        have m6 := same_upd (o := .lst [.ref c1, .ref c2]) kL
        have m46 := (m4.trans m5).trans m6
        have m36 := m3.trans m46
        have m26 := (m2.trans mb).trans m36
        have sm2 : Sm (.list [.tuple [.int 21, .int 2], .tuple [.int 12, .int 1]]) := ⟨by decide +kernel, by decide +kernel, by decide +kernel⟩
        have eq : decide ((PyData.list [.tuple [.int 21, .int 2], .tuple [.int 12, .int 1]]).shown = (PyData.list [.tuple [.int 21, .int 2], .tuple [.int 12, .int 1]]).shown) = true := decide_eq_true rfl
        refine ⟨.ref L1, .ref L2, .list [.tuple [.int 21, .int 2], .tuple [.int 12, .int 1]], .list [.tuple [.int 21, .int 2], .tuple [.int 12, .int 1]], rfl, .lst (SqL.of (m46 _ _ upd_same)) (.cons (pr (Same.tup m26 ta)) (.cons (pr (Same.tup m36 tb2)) .nil)),
          .lst (SqL.of upd_same) (.cons (pr (SqT.of ((m5.trans m6) _ _ upd_same))) (.cons (pr (SqT.of (m6 _ _ upd_same))) .nil)), sm2, sm2, _, rfl, ?_⟩
        rw [eq]
        have mAll := (m1.trans ma).trans m26
        exact iteF ⟨_, _, _, _, _, _, _, rfl, Dp.same mAll _ _ hx, Dp.same mAll _ _ hL⟩
      clear hx hL
      rintro σ G ⟨o2, o3, o4, o5, o6, o7, o8, rfl, hx, hL⟩
      refine ⟨_, rfl, _, rfl, two, fun T4 h4 => ⟨one, fun L2 h2 => ⟨L2, 4, _, rfl, rfl, upd_same, by decide, by decide, by show 1 * 4 ≤ sizeLine; decide, fun L3 h3 => ?_⟩⟩⟩
      have m4 := same_upd (o := .tup [.str "InvalidRatio", x]) h4
      have m2 := same_upd (o := .lst [.ref T4]) h2
      have m3 := same_upd (o := .lst [.ref T4, .ref T4, .ref T4, .ref T4]) h3
      have sAll := (m4.trans m2).trans m3
      have pd := Dp.tup (K := K) (ds := [.str "InvalidRatio", d]) (SqT.of (m3 _ _ (m2 _ _ upd_same))) (.cons (.str _) (.cons (Dp.same sAll _ _ hx) .nil))
      have sO := odd_sm smd.1 smd.2.1 smd.2.2
      have eq : decide ((oddD d).shown = (oddD d).shown) = true := decide_eq_true rfl
      refine ⟨.ref L, .ref L3, oddD d, oddD d, rfl, Dp.same sAll _ _ hL, .lst (SqL.of upd_same) (.cons pd (.cons pd (.cons pd (.cons pd .nil)))), sO, sO, _, rfl, ?_⟩
      rw [eq]
      refine iteT ⟨1, rfl, 1, rfl, two, fun T5 h5 => ⟨.int (-1), .ref T5, .int (-1), .tuple [.int (-1), .int 2], rfl, .int _, pr (SqT.of upd_same), by decide +kernel, by decide +kernel, up ⟨by decide +kernel, by decide +kernel⟩, up ⟨by decide +kernel, by decide +kernel⟩, fun _ _ G9 m9 => ⟨_, _, rfl, rfl, ?_⟩, fun z hz => by cases hz⟩⟩
      exact k _
end
end Lw

set_option maxRecDepth 100000
set_option maxHeartbeats 0
namespace Lw
open PySem PySem.Spec PyProof.Rows L2 VG
abbrev R : PySem.W.OpenRow := PySem.W.OpenLaw.row PySem.Challenge.rw_missingmiles_k03_sums_and_products_of_ra
def glb (x : Str) (st : Stmt) (dfl : List He.Dv) : He.DefD := ⟨(x, none), x, x, defArgs st, defBody st, defScope st, dfl, []⟩
def fns : List He.DefD := [glb "law" sLaw [], glb "_law_source" sSource [], glb "_law_draw" sDraw [], glb "_law_of" sOf [], glb "_law_same" sSame [], glb "_law_fields" s__law_fields [], glb "_law_ask" s__law_ask [], glb "_law_low" s__law_low [], glb "_law_plus" s__law_plus [], glb "_law_times" s__law_times [], glb "_law_less" s__law_less [], glb "_law_total" s__law_total [], glb "_law_wide" s__law_wide [], glb "_law_bare" s__law_bare [], glb "_law_sum_and_product" s__law_sum_and_product [], glb "_is_whole" s__is_whole [], glb "is_ratio" s_is_ratio [], glb "_lowest" s__lowest [], glb "ratio_of" s_ratio_of [], glb "added" s_added [], glb "multiplied" s_multiplied [], glb "is_less" s_is_less [], glb "copied" s_copied []]
def fas : List He.Fa := [.glo "law", .glo "_law_source", .glo "_law_draw", .glo "_law_of", .glo "_law_same", .glo "_law_fields", .glo "_law_ask", .glo "_law_low", .glo "_law_plus", .glo "_law_times", .glo "_law_less", .glo "_law_total", .glo "_law_wide", .glo "_law_bare", .glo "_law_sum_and_product", .glo "_is_whole", .glo "is_ratio", .glo "_lowest", .glo "ratio_of", .glo "added", .glo "multiplied", .glo "is_less", .glo "copied", .glo "InvalidRatio", .glo "MilesError", .glo "Missing", .glo "NothingLeft", .glo "ZERO", .glo "ONE", .free "int", .free "len", .free "list", .free "repr", .free "isinstance", .free "bool", .free "range", .free "tuple", .free "abs", .free "super"]
def more (K : PySem.W.Frag) : Bool := errB K "InvalidRatio" && (iniB K "InvalidRatio" R.prog.main.file && (decide (PySem.W.nsIn K mainGlobals "gcd" = some (some (.builtin "math.gcd"))) &&
  (decide (PySem.W.exmAny K (.ref (He.ga K "InvalidRatio")) [.ref (He.ga K "MilesError"), .ref (He.ga K "Missing"), .ref (He.ga K "NothingLeft")] = some true) && (He.tupB K "ZERO" [.int 0, .int 1] && He.tupB K "ONE" [.int 1, .int 1]))))
def clsBody : Stmt → List Stmt
  | .ClassDef (body := b) .. => b
  | _ => []
def sInit : Stmt := (clsBody s_InvalidRatio).getD 0 (.Pass ⟨0, 0, 0, 0⟩)
def ins : List IniD := [⟨"InvalidRatio", sInit⟩]
abbrev hk : PySem.W.Hook := hookI 4 fas fns [("law", none)] more ins
def ob (s : PySem.W.SharedT) : AlI := obsI 4 fas fns [("law", none)] more ins (HandSHeadRun.getT s)
theorem ob_eq (s : PySem.W.SharedT) : ob s = hk.obs s.abs := obsI_eq (HandSHeadRun.getT_eq s)
def loose : List Str := ["gcd", "_law_source", "_law_draw", "_law_of", "_law_same", "_law_fields", "_law_ask", "_law_low", "_law_plus", "_law_times", "_law_less", "_law_total", "_law_wide", "_law_bare", "_law_sum_and_product", "_is_whole", "is_ratio", "_lowest", "ratio_of", "added", "multiplied", "is_less", "copied", "InvalidRatio", "MilesError", "Missing", "NothingLeft", "ZERO", "ONE"]
theorem run (w : World) : HandSHeadRun.RunEqI R (PySem.W.view R.prog [0, 33]) hk ob 2000 loose w := by
  unfold HandSHeadRun.RunEqI
  kernel_rfl
end Lw

set_option maxRecDepth 100000
set_option maxHeartbeats 0
namespace Lw
open PySem PySem.Spec PyProof.Rows L2 VG
theorem vals_rev : ∀ {xs : List V} {us : List Value}, Vals xs us → Vals xs.reverse us.reverse
  | _, _, .nil => .nil
  | _, _, .cons r t => by
    rw [List.reverse_cons, List.reverse_cons]
    exact (vals_rev t).append (.cons r .nil)
abbrev L : PySem.W.OpenLaw := PySem.Challenge.rw_missingmiles_k03_sums_and_products_of_ra
theorem scInit : IniScope ["self", "given"] (defScope sInit) := ⟨rfl, rfl, rfl, by decide +kernel, by decide +kernel, by decide +kernel, by decide +kernel, rfl, rfl⟩
theorem facts {w : World} {K : PySem.W.Frag} {h : Heap} {mg : Str → Option Value} {f : Addr} (X : K.In h) (G : h.Ns mainGlobals mg) (hfa : mg ("law" : Str) = some (.ref f)) (c : SaysI fas fns [("law", none)] more ins w h K) : LawG L w K CX0 10 63 "_law_script" mg f h := by
  have d := c.x.t.d
  have e := hfa.symm.trans (He.glo_ok X G (d.fact 0 (f := .glo "law") rfl))
  cases e
  have gl : ∀ {x : Str} (i : Nat), fas[i]? = some (.glo x) → mg x = some (.ref (He.ga K x)) := fun i hi => He.glo_ok X G (d.fact i hi)
  have fr : ∀ {x : Str} (i : Nat), fas[i]? = some (.free x) → mg x = none := fun i hi => He.free_ok X G (d.fact i hi)
  obtain ⟨m1, m⟩ := He.ba c.x.more
  obtain ⟨m2, m⟩ := He.ba m
  obtain ⟨m3, m⟩ := He.ba m
  obtain ⟨m4, m⟩ := He.ba m
  obtain ⟨m5, m6⟩ := He.ba m
  have gg : mg "gcd" = some (.builtin "math.gcd") := PySem.W.mg_of X G (of_decide_eq_true m3)
  obtain ⟨fd0, F0⟩ := d.def_ 0 (d := glb "law" sLaw []) rfl
  obtain ⟨fd1, F1⟩ := d.def_ 1 (d := glb "_law_source" sSource []) rfl
  obtain ⟨fd2, F2⟩ := d.def_ 2 (d := glb "_law_draw" sDraw []) rfl
  obtain ⟨fd3, F3⟩ := d.def_ 3 (d := glb "_law_of" sOf []) rfl
  obtain ⟨fd4, F4⟩ := d.def_ 4 (d := glb "_law_same" sSame []) rfl
  obtain ⟨fd5, F5⟩ := d.def_ 5 (d := glb "_law_fields" s__law_fields []) rfl
  obtain ⟨fd6, F6⟩ := d.def_ 6 (d := glb "_law_ask" s__law_ask []) rfl
  obtain ⟨fd7, F7⟩ := d.def_ 7 (d := glb "_law_low" s__law_low []) rfl
  obtain ⟨fd8, F8⟩ := d.def_ 8 (d := glb "_law_plus" s__law_plus []) rfl
  obtain ⟨fd9, F9⟩ := d.def_ 9 (d := glb "_law_times" s__law_times []) rfl
  obtain ⟨fd10, F10⟩ := d.def_ 10 (d := glb "_law_less" s__law_less []) rfl
  obtain ⟨fd11, F11⟩ := d.def_ 11 (d := glb "_law_total" s__law_total []) rfl
  obtain ⟨fd12, F12⟩ := d.def_ 12 (d := glb "_law_wide" s__law_wide []) rfl
  obtain ⟨fd13, F13⟩ := d.def_ 13 (d := glb "_law_bare" s__law_bare []) rfl
  obtain ⟨fd14, F14⟩ := d.def_ 14 (d := glb "_law_sum_and_product" s__law_sum_and_product []) rfl
  obtain ⟨fd15, F15⟩ := d.def_ 15 (d := glb "_is_whole" s__is_whole []) rfl
  obtain ⟨fd16, F16⟩ := d.def_ 16 (d := glb "is_ratio" s_is_ratio []) rfl
  obtain ⟨fd17, F17⟩ := d.def_ 17 (d := glb "_lowest" s__lowest []) rfl
  obtain ⟨fd18, F18⟩ := d.def_ 18 (d := glb "ratio_of" s_ratio_of []) rfl
  obtain ⟨fd19, F19⟩ := d.def_ 19 (d := glb "added" s_added []) rfl
  obtain ⟨fd20, F20⟩ := d.def_ 20 (d := glb "multiplied" s_multiplied []) rfl
  obtain ⟨fd21, F21⟩ := d.def_ 21 (d := glb "is_less" s_is_less []) rfl
  obtain ⟨fd22, F22⟩ := d.def_ 22 (d := glb "copied" s_copied []) rfl
  have b0 := FunD.bindsA (ps := ["_law_script"]) F0 fun _ _ _ _ _ _ us hl => match us, hl with | [_], _ => rfl
  have b1 := FunD.bindsN (ps := ["_law_script"]) F1 fun _ _ _ _ _ _ us hl => match us, hl with | [_], _ => rfl
  have b2 := FunD.bindsN (ps := ["_law_src", "_law_many"]) F2 fun _ _ _ _ _ _ us hl => match us, hl with | [_, _], _ => rfl
  have b3 := FunD.bindsN (ps := ["_law_src", "_law_some"]) F3 fun _ _ _ _ _ _ us hl => match us, hl with | [_, _], _ => rfl
  have b4 := FunD.bindsN (ps := ["_law_found", "_law_due"]) F4 fun _ _ _ _ _ _ us hl => match us, hl with | [_, _], _ => rfl
  have b5 := FunD.bindsN (ps := ["_law_e"]) F5 fun _ _ _ _ _ _ us hl => match us, hl with | [_], _ => rfl
  have b6 := FunD.bindsN (ps := ["_law_f"]) F6 fun _ _ _ _ _ _ us hl => match us, hl with | [_], _ => rfl
  have b7 := FunD.bindsN (ps := ["_law_top", "_law_bottom"]) F7 fun _ _ _ _ _ _ us hl => match us, hl with | [_, _], _ => rfl
  have b8 := FunD.bindsN (ps := ["_law_one_z", "_law_other_z"]) F8 fun _ _ _ _ _ _ us hl => match us, hl with | [_, _], _ => rfl
  have b9 := FunD.bindsN (ps := ["_law_one_z", "_law_other_z"]) F9 fun _ _ _ _ _ _ us hl => match us, hl with | [_, _], _ => rfl
  have b10 := FunD.bindsN (ps := ["_law_one_z", "_law_other_z"]) F10 fun _ _ _ _ _ _ us hl => match us, hl with | [_, _], _ => rfl
  have b11 := FunD.bindsN (ps := ["_law_pairs"]) F11 fun _ _ _ _ _ _ us hl => match us, hl with | [_], _ => rfl
  have b12 := FunD.bindsN (ps := ["_law_src"]) F12 fun _ _ _ _ _ _ us hl => match us, hl with | [_], _ => rfl
  have b13 := FunD.bindsN (ps := ["_law_src", "_law_one_z"]) F13 fun _ _ _ _ _ _ us hl => match us, hl with | [_, _], _ => rfl
  have b14 := FunD.bindsN (ps := ["_law_some"]) F14 fun _ _ _ _ _ _ us hl => match us, hl with | [_], _ => rfl
  have b15 := FunD.bindsN (ps := ["value"]) F15 fun _ _ _ _ _ _ us hl => match us, hl with | [_], _ => rfl
  have b16 := FunD.bindsN (ps := ["value"]) F16 fun _ _ _ _ _ _ us hl => match us, hl with | [_], _ => rfl
  have b17 := FunD.bindsN (ps := ["top", "bottom"]) F17 fun _ _ _ _ _ _ us hl => match us, hl with | [_, _], _ => rfl
  have b18 := FunD.bindsN (ps := ["value"]) F18 fun _ _ _ _ _ _ us hl => match us, hl with | [_], _ => rfl
  have b21 := FunD.bindsN (ps := ["one", "other"]) F21 fun _ _ _ _ _ _ us hl => match us, hl with | [_, _], _ => rfl
  have b22 := FunD.bindsN (ps := ["value"]) F22 fun _ _ _ _ _ _ us hl => match us, hl with | [_], _ => rfl
  have kI := kbindsN (ps := ["one", "other"]) F21 0 ["other", "one"] (fun _ ws => ws.reverse) (fun _ r => vals_rev r) fun _ _ _ _ _ _ us ws h1 h2 => match us, ws, h1, h2 with | [], [_, _], _, _ => rfl
  have tN : Nm mg := ⟨fr 29 rfl, fr 30 rfl, fr 31 rfl, fr 32 rfl⟩
  have tW : NmW mg := ⟨fr 33 rfl, fr 29 rfl, fr 34 rfl⟩
  have tR : NmR mg := ⟨tW, fr 36 rfl, fr 30 rfl, gg⟩
  have tC : NmC mg := ⟨fr 33 rfl, fr 31 rfl, fr 36 rfl⟩
  have f0 : Fun K "law" "law" sLaw (He.ga K "law") fd0 := fun_of F0
  obtain ⟨oc, od, kV, doc, pm, an, cdv, ct, osl, efd, lk, hcd⟩ := f0.ex
  obtain ⟨c0, hc0⟩ := He.codeIn_ref hcd
  have hcode : fd0.code = .ref c0 := by
    rw [efd]
    exact hc0
  have ec : He.codeOf K ("law", none) = c0 := He.codeOf_eq lk hcode
  have inTf : (("law", none) : He.Defn) ∈ [(("law", none) : He.Defn)] := List.mem_singleton.mpr rfl
  have one : ∀ p ∈ [He.cT K ("law", none)], p = He.cT K ("law", none) := fun p hp => List.mem_singleton.mp hp
  refine ⟨fd0, [He.cT K ("law", none)], spLaw K (He.cT K ("law", none)).2, (fun p hp => by rw [one p hp]; exact c.x.empty _ inTf), (fun p hp => by rw [one p hp]; exact c.x.out _ inTf), (fun p hp => by rw [one p hp]; exact PySem.W.codeHd_of_K X (c.x.hd _ inTf)),
    fun s v => b0 s [v] rfl, fun H a ns hl _ hT hS => ⟨a, ns, rfl, hS, hl, hT _ (List.mem_singleton.mpr rfl), fun _ => rfl⟩, fun base _ _ TB => ?_⟩
  have tb := TB _ (List.mem_singleton.mpr rfl)
  have hc : (He.cT K ("law", none)).1 = c0 := ec
  rw [hc] at tb
  have GC := ok_copied (P := L.prog) (w := w) (base := base) (fun_of F22) tC (gl 22 rfl) b22 2
  have XE : ErrC L.prog w K mg base "InvalidRatio" ["given"] (He.ga K "InvalidRatio") 4 2 := errC_of (st := sInit) (ps := ["self", "given"]) (c.ini _ (List.mem_singleton.mpr rfl)) (iniB_ok m2) (errB_ok m1) (gl 23 rfl) (fun env => ⟨_, rfl⟩) rfl scInit rfl rfl GC rfl (gl 22 rfl) F22.kp b22
    (by decide) (by decide) (by decide) rfl (.fld rfl rfl (.code rfl)) (fr 38 rfl) rfl fun _ _ _ _ _ _ _ _ us hl => match us, hl with | [_, _], _ => rfl
  have GW : Fun K "_is_whole" "_is_whole" s__is_whole (He.ga K "_is_whole") fd15 := fun_of F15
  have A : AskT L.prog w K mg base c0 (He.cT K ("law", none)).2 [.ref (He.ga K "MilesError"), .ref (He.ga K "Missing"), .ref (He.ga K "NothingLeft")] :=
    ⟨⟨_, _, fun_of F6, gl 6 rfl, b6⟩, ⟨_, _, ok_fields (fun_of F5), gl 5 rfl, F5.kp, b5⟩, ⟨_, _, _, rfl, gl 24 rfl, gl 25 rfl, gl 26 rfl⟩, tb⟩
  have GR := ok_rat2 (ok_ratioOf (P := L.prog) (w := w) (base := base) (fun_of F18) GW (fun_of F16) tR (gl 15 rfl) b15 (gl 16 rfl) b16 XE (by decide))
  have GLo := ok_lowest (P := L.prog) (w := w) (base := base) (fun_of F17) gg
  have GLw := ok_low (P := L.prog) (w := w) (base := base) (fun_of F7) (fr 29 rfl) (fr 37 rfl)
  have GA := fold_all (ok_added (fun_of F19) GR (gl 18 rfl) F18.kp b18 GLo (gl 17 rfl) F17.kp b17 (gl 27 rfl) (He.tupB_ok m5))
  have GM := fold_all (ok_multiplied (fun_of F20) GR (gl 18 rfl) F18.kp b18 GLo (gl 17 rfl) F17.kp b17 (gl 28 rfl) (He.tupB_ok m6))
  have GD := ok_draw (P := L.prog) (w := w) (K := K) (base := base) (fun_of F2) tN
  refine ok_law (C := He.ga K "InvalidRatio") (c := c0) (cs := [.ref (He.ga K "MilesError"), .ref (He.ga K "Missing"), .ref (He.ga K "NothingLeft")]) f0 hcode ?_
  exact {
    src := ⟨_, _, ok_source (fun_of F1) tN, gl 1 rfl, F1.kp, b1⟩
    draw := ⟨_, _, GD, gl 2 rfl, F2.kp, b2⟩
    of_ := ⟨_, _, ok_of (fun_of F3) tN (fun_of F2) (gl 2 rfl) b2, gl 3 rfl, F3.kp, b3⟩
    same := ⟨_, _, ok_same (fun_of F4) tN, gl 4 rfl, F4.kp, b4⟩
    wide := ⟨_, _, ok_wide (fun_of F12) GD (gl 2 rfl) F2.kp b2 GLw (gl 7 rfl) F7.kp b7, gl 12 rfl, F12.kp, b12⟩
    bare := ⟨_, _, ok_bare (fun_of F13) GD (gl 2 rfl) F2.kp b2, gl 13 rfl, F13.kp, b13⟩
    times := ⟨_, _, ok_times (fun_of F9) GLw (gl 7 rfl) F7.kp b7, gl 9 rfl, F9.kp, b9⟩
    less2 := ⟨_, _, ok_less2 (fun_of F10), gl 10 rfl, F10.kp, b10⟩
    total := ⟨_, _, ok_total (fun_of F11) (ok_plus (fun_of F8) GLw (gl 7 rfl) F7.kp b7) (gl 8 rfl) F8.kp b8, gl 11 rfl, F11.kp, b11⟩
    sap := ⟨_, _, ok_sap (fun_of F14) (fr 30 rfl) GA (gl 19 rfl) F19.kp GM (gl 20 rfl) F20.kp, gl 14 rfl, F14.kp, b14⟩
    added := ⟨_, GA, gl 19 rfl, F19.kp⟩
    mult := ⟨_, GM, gl 20 rfl, F20.kp⟩
    less := ⟨_, _, ⟨ok_less (fun_of F21) GR (gl 18 rfl) F18.kp b18, gl 21 rfl, F21.kp, b21⟩, kI⟩
    ask := A
    own := (errB_ok m1).own
    exm := of_decide_eq_true m4
    rng := fr 35 rfl }
end Lw

set_option maxRecDepth 100000
set_option maxHeartbeats 0
open PySem PySem.W PySem.Calls PyProof.Rows
theorem PySem.Challenge.cw_missingmiles_k03_sums_and_products_of_ra_holds : PySem.Challenge.rw_missingmiles_k03_sums_and_products_of_ra.Holds := by
  w_on; o_law
  refine HandSHeadRun.head_imp (r := OpenLaw.row PySem.Challenge.rw_missingmiles_k03_sums_and_products_of_ra) (q := view (OpenLaw.row PySem.Challenge.rw_missingmiles_k03_sums_and_products_of_ra).prog [0, 33]) (H := Lw.hk) (ob := Lw.ob) (M := 2000) (loose := Lw.loose)
    (d := HandSHeadRun.topDef (OpenLaw.row PySem.Challenge.rw_missingmiles_k03_sums_and_products_of_ra).prog 33) (kwd := []) Lw.ob_eq Lw.run
    (by kernel_rfl) (by kernel_rfl) (by kernel_rfl) (by rfl) (by first | assumption | decide +kernel) (by decide +kernel) ⟨rfl, rfl, rfl, rfl, rfl, by decide +kernel⟩ ?hw ?hc
  case hw => w_witness2
  case hc =>
    refine VG.walkGE (l := PySem.Challenge.rw_missingmiles_k03_sums_and_products_of_ra) (n := 63) (k := 10) (x := "_law_script") (CX := fun _ => L2.CX0) rfl (by decide) (by kernel_rfl) ⟨rfl, by decide, by decide⟩ ?F (fun _ _ _ _ _ z => z)
    intro w mg fa h Y G hmg0
    obtain ⟨K, KX, c⟩ := Y
    have e : (HandSHeadRun.topDef (OpenLaw.row PySem.Challenge.rw_missingmiles_k03_sums_and_products_of_ra).prog 33).name = ("law" : PySem.Str) := by kernel_rfl
    rw [e] at hmg0
    exact ⟨K, KX, Lw.facts KX G hmg0 c⟩

