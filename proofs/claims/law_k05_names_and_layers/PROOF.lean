import PyProof.Rows.All
import Wide.All
import OpenK.AllK
import Wide.FinOn
import PyProof.ReprBulk
import HandS.Base
import HandS.Call
import HandS.List
import HandS.Ends
import HandS.Words
import HandS.Lambda
import HandS.EndBits
import HandS.EndTab
import HandS.Defaults
import HandS.Deep
import HandS.TupAny
import HandS.ForMost
import HandS.Wide
import HandS.Codes
import HandS.IsInst
import HandS.StrMore
import HandS.Walk
import PySem.Challenge.RW_missingmiles_k05_names_and_layers
import HandS.Head0
import HandS.Head1
import HandS.Head2
import HandS.HeadHook4
set_option Elab.async false
set_option maxRecDepth 100000
/-! Data that is small enough to be shown; calls made where no repr is under way; the law's end for such calls. -/
namespace VG
open PySem PySem.Spec PyProof.Rows L2

/-! ### small data -/
mutual
def sm : PyData → Bool
  | .none => true
  | .bool _ => true
  | .int i => decide (i.natAbs < 10 ^ 90)
  | .str x => PyData.strOk x
  | .list xs => smAll xs
  | .tuple xs => smAll xs
  | .dict _ => false
def smAll : List PyData → Bool
  | [] => true
  | x :: xs => sm x && smAll xs
end
theorem pow90 : (10 : Nat) ^ 90 < 2 ^ 1900 := by decide +kernel
theorem log_of {n : Nat} (h : n < 10 ^ 90) : n.log2 < 1920 := by
  by_cases z : n = 0
  · subst z
    decide
  · have q : n.log2 < 1900 := (Nat.log2_lt z).mpr (Nat.lt_trans h pow90)
    exact Nat.lt_of_lt_of_le q (by decide)
theorem signs_small {x : Str} (h : PyData.strOk x = true) : ∀ c ∈ x.cps.toList, c < 16 ^ 8 := fun c hc => by
  have q := Array.all_eq_true_iff_forall_mem.mp h c (Array.mem_toList_iff.mp hc)
  have q2 : c < 1114112 := of_decide_eq_true q
  exact Nat.lt_trans q2 (by decide)
theorem int_len {i : Int} (h : i.natAbs < 10 ^ 90) : (PyData.int i).shown.length ≤ 100 := by
  rw [PyData.shown_int, _root_.PySem.ofString_length]
  exact Nat.le_trans (int_text_length_le10 (k := 90) (by decide) h) (by decide)
mutual
theorem sm_all : ∀ d : PyData, sm d = true → (d.showable = true ∧ d.hasDict = false) ∧ d.leavesShort 100 = true ∧ d.canLay0 = true
  | .none, _ => ⟨⟨rfl, rfl⟩, rfl, rfl⟩
  | .bool _, _ => ⟨⟨rfl, rfl⟩, rfl, rfl⟩
  | .int i, h => by
    have q : i.natAbs < 10 ^ 90 := of_decide_eq_true (by simpa only [sm] using h)
    exact ⟨⟨by simp only [PyData.showable]; exact decide_eq_true (log_of q), by simp only [PyData.hasDict]⟩, by simp only [PyData.leavesShort]; exact decide_eq_true (int_len q), by simp only [PyData.canLay0]⟩
  | .str x, h => by
    have q : PyData.strOk x = true := by simpa only [sm] using h
    refine ⟨⟨by simp only [PyData.showable], by simp only [PyData.hasDict]⟩, ?_, by simp only [PyData.canLay0]; exact q⟩
    simp only [PyData.leavesShort]
    exact List.all_eq_true.mpr fun c hc => decide_eq_true (signs_small q c hc)
  | .list xs, h => by
    obtain ⟨⟨a, b⟩, c, e⟩ := sm_alls xs (by simpa only [sm] using h)
    exact ⟨⟨by simp only [PyData.showable]; exact a, by simp only [PyData.hasDict]; exact b⟩, by simp only [PyData.leavesShort]; exact c, by simp only [PyData.canLay0]; exact e⟩
  | .tuple xs, h => by
    obtain ⟨⟨a, b⟩, c, e⟩ := sm_alls xs (by simpa only [sm] using h)
    exact ⟨⟨by simp only [PyData.showable]; exact a, by simp only [PyData.hasDict]; exact b⟩, by simp only [PyData.leavesShort]; exact c, by simp only [PyData.canLay0]; exact e⟩
  | .dict _, h => by simp [sm] at h
theorem sm_alls : ∀ xs : List PyData, smAll xs = true → (PyData.showableAll xs = true ∧ PyData.hasDictAll xs = false) ∧ PyData.leavesShortAll 100 xs = true ∧ PyData.canLayAll0 xs = true
  | [], _ => ⟨⟨rfl, rfl⟩, rfl, rfl⟩
  | x :: xs, h => by
    have h' : sm x = true ∧ smAll xs = true := by simpa only [smAll, Bool.and_eq_true] using h
    obtain ⟨⟨a, b⟩, c, e⟩ := sm_all x h'.1
    obtain ⟨⟨a', b'⟩, c', e'⟩ := sm_alls xs h'.2
    simp only [PyData.showableAll, PyData.hasDictAll, PyData.leavesShortAll, PyData.canLayAll0, a, b, c, e, a', b', c', e', Bool.and_self, Bool.or_self, and_self]
end
/-- d may be shown, and compared: its leaves are small, it is neither deep nor long -/
structure Sm (d : PyData) : Prop where
  sm : sm d = true
  dp : d.depth ≤ 40
  bk : d.bulk ≤ 100000
theorem Sm.fits {d : PyData} (h : Sm d) : d.shown.length ≤ sizeLine := by
  have q := PyData.shown_le_bulk 100 (by decide) d (sm_all d h.sm).2.1
  have b := h.bk
  have e : (100 + 2) * d.bulk ≤ 102 * 100000 := Nat.mul_le_mul (by decide) b
  rw [sizeLine_eq]
  omega
theorem Sm.shaped {d : PyData} (h : Sm d) : SeqAt.shaped d = true := by
  have e := (sm_all d h.sm).2.2
  have f : d.depth ≤ 64 := Nat.le_trans h.dp (by decide)
  show (d.canLay0 && decide (d.depth ≤ 64)) = true
  rw [e, decide_eq_true f]
  rfl

/-! ### repr of data, where no repr is under way -/
def rRepr (K : PySem.W.Frag) : List V → Hp → VK → Prop := fun xs H Q => ∃ x d, xs = [x] ∧ Dp K H x d ∧ Sm d ∧ Q (.str d.shown) H
section
variable {X : Cx}
theorem call_repr (hG : X.A.guards = some []) (hu : X.A.units + 64 < cLine) : CallR X (.builtin "repr") (rRepr X.K) := by
  intro pins s σ H xs us Q I r h
  obtain ⟨x, d, rfl, hd, hS, q⟩ := h
  obtain ⟨u, rfl, r1⟩ := vals1 r
  have fit := hS.fits
  obtain ⟨⟨hs, hn⟩, _, _⟩ := sm_all d hS.sm
  obtain ⟨as, rd⟩ := Dp.reads I d x u hd r1
  cases hd with
  | non =>
    cases r1
    refine PySem.P.repr_of_none ⟨.str _, H, I.tok _, ⟨_, rfl⟩, ?_⟩
    rw [PyData.shown_none] at q
    exact q
  | bl b =>
    cases r1
    refine PySem.P.repr_of_bool ⟨.str _, H, I.tok _, ⟨_, rfl⟩, ?_⟩
    rw [PyData.shown_bool] at q
    cases b <;> exact q
  | int i =>
    obtain ⟨t, rfl⟩ := r1
    have z : i.natAbs < 10 ^ 90 := of_decide_eq_true (by simpa only [VG.sm] using hS.sm)
    exact PySem.P.repr_of_int (log_of z) ⟨.str _, H, I.tok _, ⟨_, rfl⟩, by rw [PyData.shown_int] at q; exact q⟩
  | str y =>
    obtain ⟨t, rfl⟩ := r1
    rw [PyData.shown_str] at q fit
    exact PySem.P.repr_of_str ⟨.str _, H, I.tok _, ⟨_, rfl⟩, q⟩ fit
  | lst hl ha =>
    cases r1
    exact repr_of_reads' rd hs (PyData.noDict_hsm hn) hG (by have := hS.dp; omega) (fun _ _ e => e) (fun h' u tk hk => ⟨.str _, H, I.kept hk, ⟨_, rfl⟩, q⟩) fit
  | tup hl ha =>
    cases r1
    exact repr_of_reads' rd hs (PyData.noDict_hsm hn) hG (by have := hS.dp; omega) (fun _ _ e => e) (fun h' u tk hk => ⟨.str _, H, I.kept hk, ⟨_, rfl⟩, q⟩) fit
end

/-! ### defs that are called where no repr is under way -/
structure FnG (P : Program) (w : World) (K : PySem.W.Frag) (mg : Str → Option Value) (base : Heap) (CX : CXT) (k : Nat) (f : Addr) (fd : FuncData) (ps : List Str) (sp : Sp) : Prop where
  many : ∀ vs H Q E, sp vs H Q E → vs.length = ps.length
  runs : ∀ (A : Around) (outer : List Env) (s : Shared) (H : Hp) (args : Args) (us : List Value) (vs : List V) (Q : VK) (E : XK), A.guards = some [] → Room k A → Env0 P w K mg base A outer s H →
    BindsTo s fd args (ps.zip us) → Vals vs us → sp vs H Q E → codeAny (model P w) A (.call (.ref f) args) (CR CX outer P w H s Q E) s
section
variable {P : Program} {w : World} {K : PySem.W.Frag} {mg : Str → Option Value} {base : Heap}
theorem okG {x qual : Str} {st : Stmt} {f : Addr} {fd : FuncData} {N ps : List Str} {k : Nat} {sp : Sp} (F : Fun K x qual st f fd) (S : FnScope N ps (defScope st)) (many : ∀ vs H Q E, sp vs H Q E → vs.length = ps.length)
    (body : ∀ (cdv : Value) (A : Around) (outer : List Env) (s : Shared) (H : Hp) (vs : List V) (Q : VK) (E : XK), A.guards = some [] → Room k (A.deeper (envOfC qual (defScope st) s.heap.objs.size f cdv)) → sp vs H Q E →
      ∃ t, PSs (cxOf CX0 P w K mg base N qual (defScope st) f cdv A outer s H E).nox (defBody st) t ∧
        t { nx := fun _ H' => Q .non H', rt := Q } (L2.start N vs) H) : FnG P w K mg base CX0 (k + 1) f fd ps sp := by
  obtain ⟨oc, od, kV, doc, pm, an, cdv, ct, osl, rfl, lk, hcd⟩ := F.ex
  refine ⟨many, fun A outer s H args us vs Q E hG hr e0 hb r q => ?_⟩
  refine LamX.run_ofS lk hcd S hr e0 hb r (many _ _ _ _ q) fun hr' => ?_
  obtain ⟨t, h1, h2⟩ := body cdv A outer s H vs Q E hG hr' q
  exact ⟨t, h1.nox, h2⟩
end
section
variable {X : Cx} {CX : CXT} {k : Nat} {f : Addr} {fd : FuncData} {ps : List Str} {sp : Sp} {dvs : List V} {ds : List Value} {E : XK} {x : Str} {p pos : Pos} {e : Expr} {es : List Expr} {t : TA}
theorem pe_callG (F : FnG X.prog X.w X.K X.mg X.base CX k f fd ps sp) (hG : X.A.guards = some []) (hr : Room k X.A) (hg : Gl X x) (hm : X.mg x = some (.ref f)) (hk : PySem.W.keepIn X.K (.ref f) = true) (hb : Binds X.K fd ps ds) (hd : Vals dvs ds)
    (hx : Passes CX X E) (ha : PA X (e :: es) t) (n1 : (x == ("__debug__" : Str)) = false := by decide) (n2 : starEach (e :: es) X.env = (false, eval e X.env) :: starEach es X.env := by rfl)
    (n3 : (backTo pos (starEach es X.env)).any (·.1) = false := by rfl) : PE X (.Call (.Name x p) (e :: es) [] pos) (tCall sp dvs E t) := by
  refine ⟨fun pins s σ H Q I q0 => wpAny_Call_Name_kw (ld_glob I hg hm (PySem.W.callWith_K (h₀ := X.base) I.ok.mod.kin hk (thn (ha.run pos pins s σ H _ I q0) fun us s1 ⟨vs, H1, I1, r, q⟩ => ⟨I1.kIn, ?_⟩) n2 n3) n1)⟩
  have r2 : Vals (vs ++ dvs) (us ++ ds) := r.append hd
  have l2 : (us ++ ds).length = ps.length := r2.length.symm.trans (F.many _ _ _ _ q)
  refine wpAny_call (codeAny_mono (F.runs X.A X.stack s1 H1 ⟨us, []⟩ (us ++ ds) (vs ++ dvs) Q E hG hr I1.env0 (hb s1 us I1.kIn l2) r2 q) fun res s' z => ?_)
  match res, z with
  | .error err, z => exact hx pins σ H1 s1 err s' I1 z
  | .ok (.ret u), z => exact I1.after z
  | .ok .next, z => exact z.elim
  | .ok .brk, z => exact z.elim
  | .ok .cont, z => exact z.elim
end
end VG

set_option maxRecDepth 100000
/-! The law's end where the law's promise asks that no repr is under way. -/
namespace VG
open PySem PySem.Spec PyProof.Rows L2 LamX

def tabObj : Obj := { cls := .none, data := .fields #[] }
def scriptObj (vs : List Value) : Obj := { cls := .type "list", data := .seq vs.toArray }
/-- what is tracked where the law is called: the tables, and the script where sc says so -/
def laidAt (cs : List (Addr × Addr)) (a : Addr) (vs : List Value) (ns : List Int) (sc : Bool) : Hp := fun b =>
  if b ∈ cs.map (·.2) then some (.tbl #[]) else if sc = true ∧ b = a then some (.frz (scriptObj vs) (.lst (ns.map V.int))) else none
theorem laid_tab {cs : List (Addr × Addr)} {a : Addr} {vs : List Value} {ns : List Int} {sc : Bool} {b : Addr} (h : b ∈ cs.map (·.2)) : laidAt cs a vs ns sc b = some (.tbl #[]) := if_pos h
theorem laid_script {cs : List (Addr × Addr)} {a : Addr} {vs : List Value} {ns : List Int} (h : a ∉ cs.map (·.2)) : laidAt cs a vs ns true a = some (.frz (scriptObj vs) (.lst (ns.map V.int))) := by
  unfold laidAt
  rw [if_neg h, if_pos ⟨rfl, rfl⟩]
theorem laid_cases {cs : List (Addr × Addr)} {a : Addr} {vs : List Value} {ns : List Int} {sc : Bool} {b : Addr} {u : HO} (h : laidAt cs a vs ns sc b = some u) :
    (b ∈ cs.map (·.2) ∧ u = .tbl #[]) ∨ (sc = true ∧ b = a ∧ u = .frz (scriptObj vs) (.lst (ns.map V.int))) := by
  unfold laidAt at h
  by_cases h1 : b ∈ cs.map (·.2)
  · rw [if_pos h1] at h
    exact .inl ⟨h1, (Option.some.inj h).symm⟩
  · rw [if_neg h1] at h
    by_cases h2 : sc = true ∧ b = a
    · rw [if_pos h2] at h
      exact .inr ⟨h2.1, h2.2, (Option.some.inj h).symm⟩
    · rw [if_neg h2] at h
      cases h

theorem law_runG {P : Program} {w : World} {K : PySem.W.Frag} {mg mb : Str → Option Value} {CX : CXT} {k : Nat} {fa a : Addr} {cs : List (Addr × Addr)} {fd : FuncData} {x : Str} {sp : Sp} {s₁ : Shared} {vs : List Value} {ns : List Int}
    (KX : K.In s₁.heap) (hns : s₁.heap.Ns mainGlobals mg) (hb : s₁.heap.Ns builtinsNs mb) (hbb : ∀ x : Str, x ≠ "__name__" → mb x = bootBuiltins x) (hlim : s₁.heap.NoLimit)
    (hgen : s₁.gens = #[]) (hT : ∀ p ∈ cs, s₁.heap.get? p.2 = some tabObj) (nT : ∀ p ∈ cs, K.lookup p.2 = none) (C : ∀ p ∈ cs, PySem.W.CodeHd s₁.heap p.1 p.2)
    (hbm : ∃ (bm : Addr) (ob : Obj), mg "__builtins__" = some (.ref bm) ∧ bm ≠ builtinsNs ∧
      s₁.heap.get? bm = some ob ∧ ob.cls = .type "module" ∧ ob.dict = some builtinsNs ∧ ob.data = .plain)
    (ha : s₁.heap.get? a = some (scriptObj vs)) (hi : IntsAre vs ns) (hl : ns.length ≤ sizeLine) (hr : Room k callerA)
    (F : ∀ base : Heap, K.In base → base.Ns mainGlobals mg → (∀ p ∈ cs, TabB base mg p.1 p.2) → FnG P w K mg base CX k fa fd [x] sp)
    (bind1 : ∀ (s : Shared) (u : Value), BindsTo s fd ⟨[u], []⟩ [(x, u)])
    (kept : ∀ H : Hp, (∀ p ∈ cs, H p.2 = some (.tbl #[])) → SqL K H a (ns.map V.int) → sp [.ref a] H (fun v _ => v = .bl true) fun _ _ _ => False)
    (noX : ∀ H e s', CX [] H s₁ (fun _ _ _ => False) e s' → False) :
    codeAny (model P w) callerA (.call (.ref fa) ⟨[.ref a], []⟩)
      (fun r s' => r = .ok (.ret (.bool true)) ∧ OldK s₁.heap s'.heap ∧ s'.os = s₁.os ∧ AllBare s'.gens) s₁ := by
  have rv : Vals (ns.map V.int) vs := vals_ints hi
  have tabOf : ∀ b, b ∈ cs.map (·.2) → ∃ p ∈ cs, p.2 = b := fun b z => List.mem_map.mp z
  have inTab : ∀ p ∈ cs, p.2 ∈ cs.map (·.2) := fun p hp => List.mem_map.mpr ⟨p, hp, rfl⟩
  have atTab : ∀ b, b ∈ cs.map (·.2) → s₁.heap.get? b = some tabObj := fun b z => by
    obtain ⟨p, hp, rfl⟩ := tabOf b z
    exact hT p hp
  have aNo : a ∉ cs.map (·.2) := fun z => by
    have q := ha.symm.trans (atTab a z)
    have q2 : Data.seq vs.toArray _ = Data.fields #[] := congrArg Obj.data (Option.some.inj q)
    cases q2
  -- sc: is the script tracked (else it is one of the module's own objects)
  obtain ⟨sc, hsc, hseq⟩ : ∃ sc : Bool, (sc = true → K.lookup a = none) ∧ SqL K (laidAt cs a vs ns sc) a (ns.map V.int) := by
    cases hk : K.lookup a with
    | none => exact ⟨true, fun _ => rfl, .inl (.inr ⟨_, laid_script aNo⟩)⟩
    | some o =>
      have q := ha.symm.trans (KX a o hk)
      cases q
      refine ⟨false, fun z => (nomatch z), .inr ⟨_, vs.toArray, _, hk, rfl, rfl, rfl, ?_, by simpa using rv⟩⟩
      rw [List.size_toArray]
      exact hi.length ▸ hl
  generalize hH : laidAt cs a vs ns sc = H at hseq
  have tabH : ∀ p ∈ cs, H p.2 = some (.tbl #[]) := fun p hp => by
    rw [← hH]
    exact laid_tab (inTab p hp)
  have casesH : ∀ {b u}, H b = some u → (b ∈ cs.map (·.2) ∧ u = .tbl #[]) ∨ (sc = true ∧ b = a ∧ u = .frz (scriptObj vs) (.lst (ns.map V.int))) := fun {b u} q => by
    rw [← hH] at q
    exact laid_cases q
  have hok : HOk P w H s₁.heap := fun b u q => by
    rcases casesH q with ⟨z, rfl⟩ | ⟨_, rfl, rfl⟩
    · exact atTab b z
    · exact ⟨ha, by rw [List.length_map]; exact hl, vs, _, rv, ha⟩
  -- an object of another data is not tracked
  have other : ∀ {b : Addr} {o : Obj}, s₁.heap.get? b = some o → o.data ≠ tabObj.data → o.data ≠ (scriptObj vs).data → H b = none := fun {b o} e n1 n2 => by
    cases q : H b with
    | none => rfl
    | some u =>
      rcases casesH q with ⟨z, _⟩ | ⟨_, z, _⟩
      · exact (n1 (congrArg Obj.data (Option.some.inj (e.symm.trans (atTab b z))))).elim
      · exact (n2 (congrArg Obj.data (Option.some.inj (e.symm.trans (z ▸ ha))))).elim
  have keeps : ∀ {b : Addr} {o : Obj}, s₁.heap.get? b = some o → o.data ≠ tabObj.data → o.data ≠ (scriptObj vs).data → (hidT s₁.heap H).get? b = some o := fun e n1 n2 => hidT_get e (other e n1 n2)
  have nsK : ∀ {b : Addr} {m : Str → Option Value}, s₁.heap.Ns b m → (hidT s₁.heap H).Ns b m := fun ⟨o, es, ep, e, d, r⟩ =>
    ⟨o, es, ep, keeps e (fun z => by rw [d] at z; cases z) (fun z => by rw [d] at z; cases z), d, r⟩
  have hKb : K.In (hidT s₁.heap H) := fun b o e => hidT_get (KX b o e) (by
    cases q : H b with
    | none => rfl
    | some u =>
      rcases casesH q with ⟨z, _⟩ | ⟨z1, z, _⟩
      · obtain ⟨p, hp, rfl⟩ := tabOf b z
        rw [nT p hp] at e
        cases e
      · rw [z, hsc z1] at e
        cases e)
  have hM : L2.Mod K mg (hidT s₁.heap H) := ⟨hKb, nsK hns, ⟨mb, nsK hb, hbb⟩, let ⟨mc, h1, h2⟩ := hlim; ⟨mc, nsK h1, h2⟩⟩
  have TB : ∀ p ∈ cs, TabB (hidT s₁.heap H) mg p.1 p.2 := fun p hp => by
    refine ⟨?_, ?_, fun z => ?_⟩
    · obtain ⟨o, us, file, tf, flags, tg, inF, text, tt, e1, r1, r2, r3, r4, r5, r6, r7, r8, hne⟩ := C p hp
      refine ⟨o, us, file, tf, flags, tg, inF, text, tt, keeps e1 (fun z => ?_) (fun z => ?_), r1, r2, r3, r4, r5, r6, r7, r8, hne⟩
      · have z2 := r2.symm.trans z
        cases z2
        simp at r3
      · have z2 := r2.symm.trans z
        cases z2
    · obtain ⟨bm, ob, b1, b2, b3, b4, b5, b6⟩ := hbm
      refine ⟨bm, ob, b1, b2, fun q => ?_, fun q => ?_, keeps b3 (fun z => ?_) (fun z => ?_), b4, b5, b6⟩
      · obtain ⟨o, es, ep, e, hd, _⟩ := hns
        have z := Option.some.inj ((q ▸ b3).symm.trans e)
        rw [← z, b6] at hd
        cases hd
      · have z := Option.some.inj ((q ▸ b3).symm.trans (hT p hp))
        rw [z] at b6
        cases b6
      · have z2 := b6.symm.trans z
        cases z2
      · have z2 := b6.symm.trans z
        cases z2
    · obtain ⟨o, es, ep, e, hd, _⟩ := hns
      have z2 := Option.some.inj ((z ▸ e).symm.trans (hT p hp))
      rw [z2] at hd
      cases hd
  have e0 : Env0 P w K mg (hidT s₁.heap H) callerA [] s₁ H :=
    ⟨rfl, hM, fun b o e => of_hidT e, Nat.le_of_eq (hidT_size _ _), trivial, fun b z => absurd (show b ∈ ([] : List Addr) from z) (by simp), hok, .of_eq hgen⟩
  refine codeAny_mono ((F _ hKb (nsK hns) TB).runs callerA [] s₁ H ⟨[.ref a], []⟩ [.ref a] [.ref a] _ _ rfl hr e0 (bind1 s₁ (.ref a)) (.cons rfl .nil) (kept H tabH hseq)) fun r s' z => ?_
  match r, z with
  | .error e, z => exact (noX H e s' z).elim
  | .ok .next, z => exact z.elim
  | .ok .brk, z => exact z.elim
  | .ok .cont, z => exact z.elim
  | .ok (.ret u), z =>
    obtain ⟨v, H', os, bare, un, hok', r', q⟩ := z
    have q1 : v = .bl true := q
    subst q1
    obtain rfl : u = Value.bool true := r'
    -- all but the tables is as it was
    have old : ∀ b o, b ∉ cs.map (·.2) → s₁.heap.get? b = some o → s'.heap.get? b = some o := fun b o nb e => by
      cases q : H b with
      | none => exact un.keep b o e q (fun z => absurd (show b ∈ ([] : List Addr) from z) (by simp)) (by simp)
      | some u =>
        rcases casesH q with ⟨z, _⟩ | ⟨_, rfl, rfl⟩
        · exact absurd z nb
        · obtain ⟨e2, _⟩ := hok' b _ (un.frzs b _ _ q)
          rw [ha] at e
          rw [← e]
          exact e2
    have grew : ∀ p ∈ cs, ∃ more : Array Value, s'.heap.get? p.2 = some { cls := .none, data := .fields more } := fun p hp => by
      obtain ⟨more, z⟩ := un.tbls p.2 #[] (tabH p hp)
      exact ⟨_, hok' p.2 _ z⟩
    refine ⟨rfl, ⟨fun b o e => ?_, fun b o e => ?_⟩, os, bare⟩
    · by_cases z : b ∈ cs.map (·.2)
      · obtain ⟨p, hp, rfl⟩ := tabOf b z
        obtain ⟨more, hm⟩ := grew p hp
        have e2 := Option.some.inj (e.symm.trans (hT p hp))
        rw [e2]
        exact .inr (.inl ⟨((C p hp).tab (hT p hp)).isCodeTable, rfl, #[], more, rfl, by rw [Array.empty_append]; exact hm⟩)
      · exact .inl (old b o z e)
    · by_cases z : b ∈ cs.map (·.2)
      · obtain ⟨p, hp, rfl⟩ := tabOf b z
        obtain ⟨more, hm⟩ := grew p hp
        exact ⟨_, hm⟩
      · exact ⟨o, old b o z e⟩

/-- what is known of the law's promise at the head's heap h -/
def LawG (l : PySem.W.OpenLaw) (w : World) (K : PySem.W.Frag) (CX : CXT) (k n : Nat) (x : Str) (mg : Str → Option Value) (fa : Addr) (h : Heap) : Prop :=
  ∃ (fd : FuncData) (cs : List (Addr × Addr)) (sp : Sp), (∀ p ∈ cs, h.get? p.2 = some tabObj) ∧ (∀ p ∈ cs, K.lookup p.2 = none) ∧ (∀ p ∈ cs, PySem.W.CodeHd h p.1 p.2) ∧
    (∀ (s : Shared) (u : Value), BindsTo s fd ⟨[u], []⟩ [(x, u)]) ∧
    (∀ (H : Hp) (a : Addr) (ns : List Int), ns.length ≤ n → (∀ z ∈ ns, Builtin.Int.intBits z ≤ 1048576) → (∀ p ∈ cs, H p.2 = some (.tbl #[])) → SqL K H a (ns.map V.int) →
      sp [.ref a] H (fun v _ => v = .bl true) fun _ _ _ => False) ∧
    ∀ base : Heap, K.In base → base.Ns mainGlobals mg → (∀ p ∈ cs, TabB base mg p.1 p.2) → FnG l.prog w K mg base CX k fa fd [x] sp
theorem walkG {l : PySem.W.OpenLaw} {n k : Nat} {q : Program} {loose : List Str} {XP : (Str → Option Value) → Heap → Prop} {YP : World → Heap → Prop} {d : DefRec} {K : Params → PySem.W.Frag} {CX : World → CXT} {x : Str}
    (hn : l.most = some n) (hn2 : n ≤ sizeLine) (hdf : d.params.defaults = []) (hr : Room k callerA)
    (hY : ∀ (w : World) (h : Heap), YP w h → (K w.params).In h)
    (F : ∀ (w : World) (mg : Str → Option Value) (fa : Addr) (h : Heap), YP w h → (K w.params).In h → h.Ns mainGlobals mg → mg d.name = some (.ref fa) →
      LawG l w (K w.params) (CX w) k n x mg fa h)
    (noX : ∀ (w : World) (H : Hp) (s : Shared) (e : Value) (s' : Shared), CX w [] H s (fun _ _ _ => False) e s' → False) :
    PySem.W.WalkO q loose XP YP l.row.toRowW d [] (fun f vs => PySem.call f vs) :=
  Att.attach_callB hn hdf fun w s₀ s₁ mg mb fa o pm cd doc a vs ns G Y ho hd hcd hmg hobj hints hlen hbits hg => by
    obtain ⟨fd, cs, sp, hT, nT, C, hb, hsp, hF⟩ := F w mg fa _ Y (hY w _ Y) G.T.g hmg
    exact law_runG (hY w _ Y) G.T.g G.T.b G.T.builtins G.T.nolimit hg hT nT C G.T.bmain hobj hints (Nat.le_trans hlen hn2) hr hF hb (fun H hH hS => hsp H a ns hlen hbits hH hS) fun H e s' => noX w H s₁ e s'
theorem walkGE {l : PySem.W.OpenLaw} {n k : Nat} {q : Program} {loose : List Str} {XP : (Str → Option Value) → Heap → Prop} {YP : World → Heap → Prop} {d : DefRec} {CX : World → CXT} {x : Str}
    (hn : l.most = some n) (hn2 : n ≤ sizeLine) (hdf : d.params.defaults = []) (hr : Room k callerA)
    (F : ∀ (w : World) (mg : Str → Option Value) (fa : Addr) (h : Heap), YP w h → h.Ns mainGlobals mg → mg d.name = some (.ref fa) →
      ∃ K : PySem.W.Frag, K.In h ∧ LawG l w K (CX w) k n x mg fa h)
    (noX : ∀ (w : World) (H : Hp) (s : Shared) (e : Value) (s' : Shared), CX w [] H s (fun _ _ _ => False) e s' → False) :
    PySem.W.WalkO q loose XP YP l.row.toRowW d [] (fun f vs => PySem.call f vs) :=
  Att.attach_callB hn hdf fun w s₀ s₁ mg mb fa o pm cd doc a vs ns G Y ho hd hcd hmg hobj hints hlen hbits hg => by
    obtain ⟨K, KX, fd, cs, sp, hT, nT, C, hb, hsp, hF⟩ := F w mg fa _ Y G.T.g hmg
    exact law_runG KX G.T.g G.T.b G.T.builtins G.T.nolimit hg hT nT C G.T.bmain hobj hints (Nat.le_trans hlen hn2) hr hF hb (fun H hH hS => hsp H a ns hlen hbits hH hS) fun H e s' => noX w H s₁ e s'
end VG

set_option maxRecDepth 100000
/-! Calls by keywords alone; x in a tuple of data; data in a heap that has grown. -/
namespace VG
open PySem PySem.Spec PyProof.Rows L2
section
variable {X : Cx} {CX : CXT} {k : Nat} {f : Addr} {fd : FuncData} {ps ks : List Str} {sp : Sp} {E : XK} {x : Str} {p pos : Pos} {kws : List Keyword} {tk : TA} {g : List Value → List Value → List Value} {gV : List V → List V → List V}
/-- f(k = v, ..) -/
theorem pe_callN0 (F : FnOk X.prog X.w X.K X.mg X.base CX k f fd ps sp) (hr : Room k X.A) (hg : Gl X x) (hm : X.mg x = some (.ref f)) (hk : PySem.W.keepIn X.K (.ref f) = true) (hb : KBn X.K fd ps 0 ks g gV)
    (hx : Passes CX X E) (hkw : PK X kws tk) (n1 : (backToKw pos (keywordEach kws X.env)).all (·.1.isSome) = true := by rfl) (n2 : (backToKw pos (keywordEach kws X.env)).filterMap (·.1) = ks := by rfl)
    (n3 : (x == ("__debug__" : Str)) = false := by decide) (n4 : ((backTo pos (starEach [] X.env)).any (·.1) || (backToKw pos (keywordEach kws X.env)).any (·.1.isNone)) = false := by rfl) :
    PE X (.Call (.Name x p) [] kws pos) (tCallN 0 ks.length sp gV E tNil tk) :=
  ⟨fun pins s σ H Q I h => wpAny_Call_Name_kw (ld_glob I hg hm (PySem.W.callWith_KW0 (h₀ := X.base) I.ok.mod.kin hk n1 (thn (hkw.run pos pins s σ H _ I h) fun ws s2 ⟨zs, H2, I2, rz, l1, l2, q2⟩ =>
    ⟨I2.kIn, by rw [n2]; exact run_fnN (us := []) (vs := []) F hr hb hx I2 .nil rz l1 l2 q2⟩) n4) n3)⟩
end
/-! ### how keywords bind -/
section
variable {K : PySem.W.Frag} {x qual : Str} {params : Arguments} {body : List Stmt} {scope : Scope} {dvs : List V} {kws : List (Str × V)} {f : Addr} {fd : FuncData} {ps : List Str}
/-- some defaults, no keyword-only ones -/
theorem kbindsD (F : FunD K x qual params body scope dvs kws f fd) (n : Nat) (ks : List Str) (g : {α : Type} → List α → List α → List α → List α) (hd : dvs ≠ [])
    (hrel : ∀ {vs ds zs : List V} {us its ws : List Value}, Vals vs us → Vals ds its → Vals zs ws → Vals (g vs ds zs) (g us its ws))
    (h : ∀ (T : Addr) (kV doc pm : Value) (an : Option Addr) (cdv ct : Value) (us its ws : List Value), us.length = n → its.length = dvs.length → ws.length = ks.length →
      ∃ k, bindArgs (PySem.W.fnOf x qual params body scope (.ref T) kV doc pm an cdv ct) ⟨us, ks.zip ws⟩ = seqItems? (.ref T) >>= k ∧ k (some its.toArray) = pure (ps.zip (g us its ws))) :
    ∃ its : List Value, KBn K fd ps n ks (fun us ws => g us its ws) (fun vs zs => g vs dvs zs) := by
  obtain ⟨oc, od, dV, kV, doc, pm, an, cdv, ct, osl, rfl, lk, hcd, hD, hK⟩ := F.ex
  rcases hD with ⟨e, _⟩ | ⟨_, T, o, its, m, rfl, lT, oT, rT⟩
  · exact absurd e hd
  · refine ⟨its, fun s us ws X l1 l2 => BindsTo.of_looks fun M => ?_, fun r1 r2 => hrel r1 rT r2⟩
    obtain ⟨k, e1, e2⟩ := h T kV doc pm an cdv ct us its ws l1 rT.length.symm l2
    rw [e1]
    exact looks_items X lT oT (.of_pure e2)
/-- no defaults at all -/
theorem kbindsN (F : FunD K x qual params body scope [] kws f fd) (n : Nat) (ks : List Str) (g : {α : Type} → List α → List α → List α)
    (hrel : ∀ {vs zs : List V} {us ws : List Value}, Vals vs us → Vals zs ws → Vals (g vs zs) (g us ws))
    (h : ∀ (kV doc pm : Value) (an : Option Addr) (cdv ct : Value) (us ws : List Value), us.length = n → ws.length = ks.length →
      bindArgs (PySem.W.fnOf x qual params body scope .none kV doc pm an cdv ct) ⟨us, ks.zip ws⟩ = pure (ps.zip (g us ws))) : KBn K fd ps n ks (fun us ws => g us ws) (fun vs zs => g vs zs) := by
  obtain ⟨oc, od, dV, kV, doc, pm, an, cdv, ct, osl, rfl, lk, hcd, hD, hK⟩ := F.ex
  rcases hD with ⟨_, rfl⟩ | ⟨e, _⟩
  · exact ⟨fun s us ws _ l1 l2 => .of_eq (h kV doc pm an cdv ct us ws l1 l2), fun r1 r2 => hrel r1 r2⟩
  · exact absurd rfl e
theorem fun_of {st : Stmt} {f : Addr} {fd : FuncData} {kws : List (Str × V)} (F : FunD K x qual (defArgs st) (defBody st) (defScope st) [] kws f fd) : Fun K x qual st f fd := by
  obtain ⟨oc, od, dV, kV, doc, pm, an, cdv, ct, osl, e, lk, hcd, hD, hK⟩ := F.ex
  rcases hD with ⟨_, rfl⟩ | ⟨e, _⟩
  · exact ⟨⟨oc, od, kV, doc, pm, an, cdv, ct, osl, e, lk, hcd⟩, F.kp⟩
  · exact absurd rfl e
end
section
variable {X : Cx}
def rInT (K : PySem.W.Frag) (neg : Bool) : R2 := fun x y H Q => ∃ d ds, Dp K H x d ∧ Dp K H y (.tuple ds) ∧ SeqAt.shaped d = true ∧ SeqAt.shaped (.tuple ds) = true ∧
  Q (.bl (if neg then !ds.any fun z => PyData.eqv z d else ds.any fun z => PyData.eqv z d)) H
theorem room_inT {A : Around} {d : PyData} {xs : List PyData} (h : SeqAt.shaped d = true) (hu : A.units + 65 < cLine) : A.units + 1 + min (PyData.depthAll xs) d.depth < cLine := by
  have z := SeqAt.depth_of_shaped h
  have := Nat.min_le_right (PyData.depthAll xs) d.depth
  omega
theorem op_inT (hu : X.A.units + 65 < cLine) : OpR X (compareOp .In) (rInT X.K false) := by
  rintro pins s σ H x y v u Q I rx ry ⟨d, ds, hd, he, sd, se, q⟩
  obtain ⟨as, r1⟩ := Dp.reads I d x v hd rx
  obtain ⟨bs, r2⟩ := Dp.reads I (.tuple ds) y u he ry
  exact SeqAt.in_tuple_reads r2 r1 (SeqAt.canLay_of_shaped se) (SeqAt.canLay_of_shaped sd) (room_inT sd hu) ⟨.bl _, H, I, rfl, q⟩
theorem op_notInT (hu : X.A.units + 65 < cLine) : OpR X (compareOp .NotIn) (rInT X.K true) := by
  rintro pins s σ H x y v u Q I rx ry ⟨d, ds, hd, he, sd, se, q⟩
  obtain ⟨as, r1⟩ := Dp.reads I d x v hd rx
  obtain ⟨bs, r2⟩ := Dp.reads I (.tuple ds) y u he ry
  exact SeqAt.notIn_tuple_reads r2 r1 (SeqAt.canLay_of_shaped se) (SeqAt.canLay_of_shaped sd) (room_inT sd hu) ⟨.bl _, H, I, rfl, q⟩
end
theorem Same.tup {K : PySem.W.Frag} {H H' : Hp} {a : Addr} {xs : List V} (e : Same H H') (h : SqT K H a xs) : SqT K H' a xs := by
  rcases h with (h | ⟨o, h⟩) | h
  · exact .inl (.inl (e _ _ h))
  · exact .inl (.inr ⟨o, e _ _ h⟩)
  · exact .inr h
mutual
theorem Dp.same {K : PySem.W.Frag} {H H' : Hp} (e : Same H H') : ∀ (d : PyData) (v : V), Dp K H v d → Dp K H' v d
  | .none, _, h => by cases h; exact .non
  | .bool b, _, h => by cases h; exact .bl b
  | .int i, _, h => by cases h; exact .int i
  | .str x, _, h => by cases h; exact .str x
  | .list ds, _, h => by
    cases h with
    | lst a b => exact .lst (e.seq a) (DpAll.same e ds _ b)
  | .tuple ds, _, h => by
    cases h with
    | tup a b => exact .tup (Same.tup e a) (DpAll.same e ds _ b)
  | .dict _, _, h => by cases h
theorem DpAll.same {K : PySem.W.Frag} {H H' : Hp} (e : Same H H') : ∀ (ds : List PyData) (vs : List V), DpAll K H vs ds → DpAll K H' vs ds
  | [], _, h => by cases h; exact .nil
  | d :: ds, _, h => by
    cases h with
    | cons a b => exact .cons (Dp.same e d _ a) (DpAll.same e ds _ b)
end
end VG

set_option maxRecDepth 100000
namespace Lw
open PySem L2 VG
def topS (i : Nat) : Stmt := PySem.Challenge.pw_missingmiles_k05_names_and_layers.main.body.getD i (.Pass ⟨0, 0, 0, 0⟩)
abbrev sSource : Stmt := topS 7
abbrev sDraw : Stmt := topS 8
abbrev sOf : Stmt := topS 9
abbrev sSame : Stmt := topS 10
abbrev sLet : Stmt := topS 3
abbrev sName : Stmt := topS 4
abbrev sLayer : Stmt := topS 5
abbrev sLaw : Stmt := topS 11
/-! ### the source of draws -/
def srcL (q : Addr) (i c seed n : Int) : List V := [.ref q, .int i, .int c, .int seed, .int n]
structure Src (H : Hp) (p q : Addr) (cells : List Int) : Prop where
  ex : ∃ i c seed n : Int, H p = some (.lst (srcL q i c seed n)) ∧ 0 ≤ i ∧ 0 ≤ c
  cs : H q = some (.lst (cells.map V.int))
  few : cells.length ≤ 63
  ne : p ≠ q
/-- all but p is as it was -/
def But (p : Addr) (H H' : Hp) : Prop := ∀ b, b ≠ p → H' b = H b
theorem But.refl (p : Addr) (H : Hp) : But p H H := fun _ _ => rfl
theorem But.trans {p : Addr} {H H1 H2 : Hp} (a : But p H H1) (b : But p H1 H2) : But p H H2 := fun c n => (b c n).trans (a c n)
theorem But.upd {p : Addr} {H : Hp} {o : HO} : But p H (upd H p o) := fun _ n => upd_ne n
def spSource (K : PySem.W.Frag) : Sp := fun vs H Q _ => ∃ (a : Addr) (ns : List Int), vs = [.ref a] ∧ SqL K H a (ns.map V.int) ∧ ns.length ≤ 63 ∧
  ∀ (p q : Addr) (H' : Hp), H p = none → H q = none → Same H H' → Src H' p q ns → Q (.ref p) H'
def spDraw : Sp := fun vs H Q _ => ∃ (p q : Addr) (cells : List Int) (m : Int), vs = [.ref p, .int m] ∧ Src H p q cells ∧ 0 < m ∧ m < 2 ^ 100 ∧
  ∀ (r : Int) (H' : Hp), 0 ≤ r → r < m → Src H' p q cells → But p H H' → Q (.int r) H'
/-- what the law's helpers ask of the names of the top -/
structure Nm (mg : Str → Option Value) : Prop where
  int : mg "int" = none
  len : mg "len" = none
  list : mg "list" = none
  repr : mg "repr" = none
section
variable {P : Program} {w : World} {K : PySem.W.Frag} {mg : Str → Option Value} {base : Heap}
theorem scSource : FnScope ["_law_script", "_law_seed", "_law_cell"] ["_law_script"] (defScope sSource) := ⟨rfl, rfl, rfl, by decide +kernel, rfl, by decide +kernel, by decide +kernel⟩
theorem scDraw : FnScope ["_law_src", "_law_many", "_law_cell", "_law_digit", "_law_root", "_law_grown"] ["_law_src", "_law_many"] (defScope sDraw) := ⟨rfl, rfl, rfl, by decide +kernel, rfl, by decide +kernel, by decide +kernel⟩
theorem ok_draw {f : Addr} {fd : FuncData} (F : Fun K "_law_draw" "_law_draw" sDraw f fd) (T : Nm mg) : FnOk P w K mg base CX0 1 f fd ["_law_src", "_law_many"] spDraw := by
  refine F.ok scDraw (fun vs H Q E h => ?_) (fun cdv A outer s H vs Q E hr h => ?_)
  · obtain ⟨p, q, cells, m, rfl, _⟩ := h
    rfl
  · obtain ⟨p, q, cells, m, rfl, ⟨⟨i, c, seed, n, hp, hi, hc⟩, hq, hfew, hne⟩, hm0, hm1, k⟩ := h
    have nd := scDraw.nd
    refine ⟨_, C8.pss_cut (ps_if (PW.pt (pw_and (pt_cmpR op_lt (pe_ix ix_list (pv 0) pe_int fun _ _ => rfl) (pv 1) (nomark _))
          (pw_and1 (pt_cmpR op_lt (pe_ix ix_list (pv 0) pe_int fun _ _ => rfl) (pe_callB call_len_seq (by rfl) T.len PySem.boot_len (pa_cons (pe_ix ix_list (pv 0) pe_int fun _ _ => rfl) pa_nil)) (nomark _)))))
        (pss_cons (ps_set (i := 2) nd rfl (Or.inl rfl) (pe_ix ix_list (pe_ix ix_list (pv 0) pe_int fun _ _ => rfl) (pe_ix ix_list (pv 0) pe_int fun _ _ => rfl) fun _ _ => rfl))
        (pss_cons (ps_asg (pe_op op_add (pe_ix ix_list (pv 0) pe_int fun _ _ => rfl) pe_int) (pg_sub (pv 0) pe_int set_list))
        (pss_cons (ps_asg (pe_op op_mod (pe_callTy call_int1 (by rfl) T.int (by decide +kernel) (pa_cons (pe_op op_add (pe_op op_add (pe_op op_mul (pe_ix ix_list (pv 0) pe_int fun _ _ => rfl) pe_int)
            (pe_op op_mod (pe_callTy call_int1 (by rfl) T.int (by decide +kernel) (pa_cons (pv 2) pa_nil)) pe_int)) pe_int) pa_nil)) pe_int) (pg_sub (pv 0) pe_int set_list))
        (pss_one (ps_asg (pe_ifExp (pt_cmpR op_ge (pv 2) (pe_op op_pow pe_int pe_int) (nomark _)) (pv 2) pe_int) (pg_sub (pv 0) pe_int set_list)))))) pss_nil)
      (pss_cons (ps_if (pt_cmpR op_ge (pe_ix ix_list (pv 0) pe_int fun _ _ => rfl) (pv 1) (nomark _))
        (pss_cons (ps_set (i := 3) nd rfl (Or.inl rfl) (pe_op op_mod (pe_callTy call_int1 (by rfl) T.int (by decide +kernel) (pa_cons (pe_ix ix_list (pv 0) pe_int fun _ _ => rfl) pa_nil)) (pv 1)))
        (pss_cons (ps_asg (pe_op op_fdivW (pe_ix ix_list (pv 0) pe_int fun _ _ => rfl) (pv 1)) (pg_sub (pv 0) pe_int set_list))
        (pss_one (ps_ret (pv 3))))) pss_nil)
      (pss_cons (ps_asg (pe_op op_add (pe_ix ix_list (pv 0) pe_int fun _ _ => rfl) pe_int) (pg_sub (pv 0) pe_int set_list))
      (C8.pss_cut (ps_set (i := 4) nd rfl (Or.inl rfl) (pe_op op_mod (pe_callTy call_int1 (by rfl) T.int (by decide +kernel) (pa_cons (pe_op op_add (pe_ix ix_list (pv 0) pe_int fun _ _ => rfl)
          (pe_op op_mul (pe_ix ix_list (pv 0) pe_int fun _ _ => rfl) pe_int)) pa_nil)) pe_int))
      (pss_cons (ps_set (i := 5) nd rfl (Or.inl rfl) (pe_op op_mul (pe_op op_mod (pe_callTy call_int1 (by rfl) T.int (by decide +kernel) (pa_cons (pe_op op_mul (pv 4) (pv 4)) pa_nil)) pe_int)
          (pe_op op_add (pe_op op_mod (pe_callTy call_int1 (by rfl) T.int (by decide +kernel) (pa_cons (pv 4) pa_nil)) pe_int) pe_int)))
      (pss_cons (ps_asg (pe_op op_mod (pe_callTy call_int1 (by rfl) T.int (by decide +kernel) (pa_cons (pe_op op_add (pe_op op_add (pv 5) (pe_op op_mul pe_int (pv 4))) pe_int) pa_nil)) pe_int) (pg_sub (pv 0) pe_int set_list))
      (pss_one (ps_ret (pe_op op_mod (pe_callTy call_int1 (by rfl) T.int (by decide +kernel) (pa_cons (pe_op op_add (pe_op op_fdiv (pe_ix ix_list (pv 0) pe_int fun _ _ => rfl) pe_int)
          (pe_op op_mul (pe_op op_mod (pe_callTy call_int1 (by rfl) T.int (by decide +kernel) (pa_cons (pe_ix ix_list (pv 0) pe_int fun _ _ => rfl) pa_nil)) pe_int) pe_int)) pa_nil)) (pv 1))))))))), ?_⟩
    -- behind the first if the source is as it may be
    refine ⟨fun σ H1 => ∃ cell, σ = [some (.ref p), some (.int m), cell, none, none, none] ∧ Src H1 p q cells ∧ But p H H1, ?_, ?_⟩
    · refine ⟨_, rfl, _, _, _, _, rfl, rfl, SqL.of hp, rfl, _, rfl, _, _, rfl, rfl, _, rfl, ?_⟩
      refine ite2 (fun hlt => ?_) (fun _ => iteF ⟨_, rfl, ⟨⟨i, c, seed, n, hp, hi, hc⟩, hq, hfew, hne⟩, But.refl _ _⟩)
      refine ⟨_, rfl, _, _, _, _, rfl, rfl, SqL.of hp, rfl, _, rfl, _, _, _, _, rfl, rfl, SqL.of hp, rfl, q, _, rfl, .inl (SqL.of hq), _, _, rfl, rfl, _, rfl, ?_⟩
      refine ite2 (fun hlt2 => ?_) (fun _ => ⟨_, rfl, ⟨⟨i, c, seed, n, hp, hi, hc⟩, hq, hfew, hne⟩, But.refl _ _⟩)
      have hlt2 : i < ((cells.map V.int).length : Int) := of_decide_eq_true hlt2
      rw [List.length_map] at hlt2
      obtain ⟨j, rfl⟩ := Int.eq_ofNat_of_zero_le hi
      have hj : j < cells.length := by omega
      have hcell : (cells.map V.int)[j]? = some (V.int cells[j]) := by rw [List.getElem?_map, List.getElem?_eq_getElem hj]; rfl
      have hqp : ∀ {H' : Hp}, But p H H' → H' q = some (.lst (cells.map V.int)) := fun b => (b q hne.symm).trans hq
      refine ⟨_, rfl, _, _, _, _, rfl, rfl, SqL.of hp, rfl, _, rfl, _, _, _, _, rfl, rfl, SqL.of hp, rfl, q, _, _, _, rfl, rfl, SqL.of hq, atI_nat hcell, ?_⟩
      -- _law_src[1] = _law_src[1] + 1
      refine ⟨_, rfl, _, _, _, _, rfl, rfl, SqL.of hp, rfl, _, _, rfl, rfl, _, rfl, p, _, _, _, rfl, rfl, hp, rfl, ?_⟩
      -- _law_src[3] = ..
      refine ⟨_, rfl, _, _, _, _, rfl, rfl, SqL.of upd_same, rfl, _, _, rfl, rfl, .inr ⟨by decide, by decide⟩, _, rfl, .inl ⟨_, rfl, _, _, rfl, rfl, (by show (0 : Int) < 2147483323; decide), _, _, rfl, rfl, _, _, rfl, rfl, .inl ⟨_, rfl, _, _, rfl, rfl, (by show (0 : Int) < 2147483549; decide), _, rfl, p, _, _, _, rfl, rfl, upd_same, rfl, ?_⟩⟩⟩
      -- _law_src[2] = ..
      refine ⟨_, rfl, _, _, rfl, rfl, ⟨by decide, by decide, by decide⟩, _, _, rfl, rfl, _, rfl, ?_⟩
      refine ite2 (fun hge => ?_) (fun _ => ?_)
      · refine ⟨_, rfl, _, rfl, p, _, _, _, rfl, rfl, upd_same, rfl, ⟨_, rfl, ⟨⟨_, _, _, _, upd_same, by omega, ?_⟩, ?_, hfew, hne⟩, ?_⟩⟩
        · have z := of_decide_eq_true hge
          exact Int.le_trans (by decide) z
        · exact hqp (But.trans (But.trans But.upd But.upd) But.upd)
        · exact But.trans (But.trans But.upd But.upd) But.upd
      · exact ⟨_, rfl, p, _, _, _, rfl, rfl, upd_same, rfl, ⟨_, rfl, ⟨⟨_, _, _, _, upd_same, by omega, Int.le_refl _⟩, hqp (But.trans (But.trans But.upd But.upd) But.upd), hfew, hne⟩, But.trans (But.trans But.upd But.upd) But.upd⟩⟩
    · rintro σ H1 ⟨cell, rfl, ⟨⟨i, c, seed, n, hp, hi, hc⟩, hq, _, _⟩, hB⟩
      -- if _law_src[2] >= _law_many
      refine ⟨_, rfl, _, _, _, _, rfl, rfl, SqL.of hp, rfl, _, rfl, _, _, rfl, rfl, _, rfl, ?_⟩
      refine ite2 (fun _ => ?_) (fun _ => ?_)
      · refine ⟨_, rfl, _, _, _, _, rfl, rfl, SqL.of hp, rfl, .inl ⟨_, rfl, _, rfl, _, _, rfl, rfl, hm0, ?_⟩⟩
        refine ⟨_, rfl, _, _, _, _, rfl, rfl, SqL.of hp, rfl, _, rfl, _, _, rfl, rfl, wide_div hm0 (b := 100) (by omega) (by decide) (by decide), _, rfl, p, _, _, _, rfl, rfl, hp, rfl, ?_⟩
        exact ⟨_, rfl, k _ _ (Int.emod_nonneg _ (by omega)) (Int.emod_lt_of_pos _ hm0) ⟨⟨_, _, _, _, upd_same, hi, Int.ediv_nonneg hc (Int.le_of_lt hm0)⟩, (upd_ne hne.symm).trans hq, hfew, hne⟩ (But.trans hB But.upd)⟩
      · -- _law_src[4] = _law_src[4] + 1
        refine ⟨_, rfl, _, _, _, _, rfl, rfl, SqL.of hp, rfl, _, _, rfl, rfl, _, rfl, p, _, _, _, rfl, rfl, hp, rfl, ?_⟩
        -- _law_root
        refine ⟨fun σ H2 => ∃ root : Int, 0 ≤ root ∧ root < 2147483629 ∧ σ = [some (.ref p), some (.int m), cell, none, some (.int root), none] ∧ H2 = upd H1 p (.lst (srcL q i c seed (n + 1))), ?_, ?_⟩
        · refine ⟨_, rfl, _, _, _, _, rfl, rfl, SqL.of upd_same, rfl, _, rfl, _, _, _, _, rfl, rfl, SqL.of upd_same, rfl, _, _, rfl, rfl, .inr ⟨by decide, by decide⟩, _, _, rfl, rfl, .inl ⟨_, rfl, _, _, rfl, rfl, (by show (0 : Int) < 2147483629; decide), ?_⟩⟩
          exact ⟨_, Int.emod_nonneg _ (by decide), Int.emod_lt_of_pos _ (by decide), rfl, rfl⟩
        · rintro σ H2 ⟨root, r0, r1, rfl, rfl⟩
          -- _law_grown
          refine ⟨_, rfl, _, rfl, _, _, rfl, rfl, .inl ⟨by omega, by omega⟩, .inl ⟨_, rfl, _, _, rfl, rfl, (by show (0 : Int) < 2147483399; decide), ?_⟩⟩
          refine ⟨_, rfl, .inl ⟨_, rfl, _, _, rfl, rfl, (by show (0 : Int) < 39989; decide), _, _, rfl, rfl, _, _, rfl, rfl, .inl ⟨?_, ?_⟩, ?_⟩⟩
          · exact Int.lt_of_lt_of_le (by decide) (Int.emod_nonneg _ (by decide))
          · exact Int.lt_of_lt_of_le (Int.emod_lt_of_pos _ (by decide)) (by decide)
          -- _law_src[3]
          refine ⟨_, rfl, _, rfl, _, _, rfl, rfl, .inl ⟨by decide, by decide⟩, _, _, rfl, rfl, _, _, rfl, rfl, .inl ⟨_, rfl, _, _, rfl, rfl, (by show (0 : Int) < 2147483549; decide), _, rfl, p, _, _, _, rfl, rfl, upd_same, rfl, ?_⟩⟩
          -- return
          refine ⟨_, rfl, _, _, _, _, rfl, rfl, SqL.of upd_same, rfl, _, _, rfl, rfl, ⟨by decide, by decide⟩, _, rfl, _, _, _, _, rfl, rfl, SqL.of upd_same, rfl, .inl ⟨_, rfl, _, _, rfl, rfl, (by show (0 : Int) < 8521; decide), _, _, rfl, rfl, .inr ⟨by decide, by decide⟩, _, _, rfl, rfl, .inl ⟨_, rfl, _, rfl, _, _, rfl, rfl, hm0, ?_⟩⟩⟩
          exact k _ _ (Int.emod_nonneg _ (by omega)) (Int.emod_lt_of_pos _ hm0) ⟨⟨_, _, _, _, upd_same, hi, hc⟩, by rw [upd_ne hne.symm, upd_ne hne.symm]; exact hq, hfew, hne⟩ (But.trans hB (But.trans But.upd But.upd))
theorem ok_source {f : Addr} {fd : FuncData} (F : Fun K "_law_source" "_law_source" sSource f fd) (T : Nm mg) : FnOk P w K mg base CX0 1 f fd ["_law_script"] (spSource K) := by
  refine F.ok scSource (fun vs H Q E h => ?_) (fun cdv A outer s H vs Q E hr h => ?_)
  · obtain ⟨a, ns, rfl, _⟩ := h
    rfl
  · obtain ⟨a, ns, rfl, hS, hl, k⟩ := h
    have nd := scSource.nd
    have cut : cutV (ns.map V.int) none (some 63) = ns.map V.int := by
      unfold cutV HT.sIx
      rw [List.drop_zero, List.length_map]
      refine List.take_of_length_le ?_
      rw [List.length_map]
      show ns.length ≤ min 63 ns.length - 0
      omega
    refine ⟨_, pss_cons (ps_set (i := 1) nd rfl (Or.inl rfl) pe_int)
      (pss_cons (ps_for PassesOwn.never rfl (pi_list (pe_slice sl_list (pv 0) po_none (po_some pe_int))) (pg_name (i := 2) nd rfl (Or.inl rfl))
        (pss_one (ps_set (i := 1) nd rfl (Or.inl rfl) (pe_op op_mod (pe_callTy call_int1 (by rfl) T.int (by decide +kernel) (pa_cons (pe_op op_add (pe_op op_add (pe_op op_mul (pv 1) pe_int)
            (pe_op op_mod (pe_callTy call_int1 (by rfl) T.int (by decide +kernel) (pa_cons (pv 2) pa_nil)) pe_int)) pe_int) pa_nil)) pe_int))))
      (pss_one (ps_ret (pe_lst (pa_cons (pe_callTy call_list_of (by rfl) T.list (by decide +kernel) (pa_cons (pe_slice sl_list (pv 0) po_none (po_some pe_int)) pa_nil))
        (pa_cons pe_int (pa_cons pe_int (pa_cons (pv 1) (pa_cons pe_int pa_nil))))))))), ?_⟩
    refine ⟨_, rfl, _, rfl, a, _, rfl, hS, fun u hu => ?_⟩
    rw [cut]
    have sm : Same H (upd H u (.lst (ns.map V.int))) := fun b o e => by rw [upd_ne (ne_of_none e hu)]; exact e
    refine ⟨u, rfl, ⟨_, SqL.of upd_same⟩, for_list (K := K) (a := u) (xs := ns.map V.int) (fun i σ H2 => ∃ (sd : Int) (v : Option V), σ = [some (.ref a), some (.int sd), v] ∧ H2 = upd H u (.lst (ns.map V.int)))
      ⟨_, _, rfl, rfl⟩ (fun i σ H2 _ ⟨_, _, _, e⟩ => e ▸ SqL.of upd_same) ?_ ?_⟩
    · rintro i y σ H2 hi ⟨sd, v, rfl, rfl⟩
      obtain ⟨z, rfl⟩ : ∃ z, y = V.int z := by
        rw [List.getElem?_map] at hi
        obtain ⟨z, _, e⟩ := Option.map_eq_some_iff.mp hi
        exact ⟨z, e.symm⟩
      exact ⟨_, rfl, _, _, rfl, rfl, .inr ⟨by decide, by decide⟩, _, rfl, .inl ⟨_, rfl, _, _, rfl, rfl, (by show (0 : Int) < 2147483353; decide), _, _, rfl, rfl, _, _, rfl, rfl, .inl ⟨_, rfl, _, _, rfl, rfl, (by show (0 : Int) < 2147483587; decide), _, _, rfl, rfl⟩⟩⟩
    · rintro σ H2 ⟨sd, v, rfl, rfl⟩
      refine ⟨_, rfl, _, rfl, a, _, rfl, sm.seq hS, fun u2 hu2 => ?_⟩
      rw [cut]
      refine ⟨u2, _, rfl, .inl (SqL.of upd_same), fun u3 hu3 => ⟨_, rfl, by show 5 ≤ sizeLine; decide, fun p hp => ?_⟩⟩
      have n3 : u3 ≠ p := fun z => by rw [z, upd_same] at hp; cases hp
      have sm2 : Same H (upd (upd (upd H u (.lst (ns.map V.int))) u2 (.lst (ns.map V.int))) u3 (.lst (ns.map V.int))) := fun b o e => by
        rw [upd_ne (ne_of_none (by rw [upd_ne (ne_of_none (sm b o e) hu2)]; exact sm b o e) hu3), upd_ne (ne_of_none (sm b o e) hu2)]
        exact sm b o e
      have sm3 : Same H (upd (upd (upd H u (.lst (ns.map V.int))) u2 (.lst (ns.map V.int))) u3 (.lst (ns.map V.int))) := sm2
      refine k p u3 _ (sm2.free hp) ?_ (fun b o e => ?_) ⟨⟨0, 0, sd, 0, upd_same, Int.le_refl _, Int.le_refl _⟩, ?_, hl, n3.symm⟩
      · have e1 : Same H (upd (upd H u (.lst (ns.map V.int))) u2 (.lst (ns.map V.int))) := fun b o e => by
          rw [upd_ne (ne_of_none (sm b o e) hu2)]
          exact sm b o e
        exact e1.free hu3
      · rw [upd_ne (ne_of_none (sm2 b o e) hp)]
        exact sm2 b o e
      · rw [upd_ne n3, upd_same]
/-! ### one of some things; are two data shown alike -/
def spOf (K : PySem.W.Frag) : Sp := fun vs H Q _ => ∃ (p q : Addr) (cells : List Int) (sv : V), vs = [.ref p, sv] ∧ Src H p q cells ∧
  ((∃ (a : Addr) (xs : List V), sv = .ref a ∧ (∀ H', But p H H' → SqL K H' a xs ∨ SqT K H' a xs) ∧ 0 < xs.length ∧ xs.length < 1000000 ∧
      ∀ (i : Nat) (x : V) (H' : Hp), xs[i]? = some x → Src H' p q cells → But p H H' → Q x H') ∨
    ∃ z : Str, sv = .str z ∧ 0 < z.length ∧ z.length < 1000000 ∧ ∀ (c : Nat) (H' : Hp), c ∈ z.cps.toList → Src H' p q cells → But p H H' → Q (.str ⟨#[c]⟩) H')
theorem scOf : FnScope ["_law_src", "_law_some"] ["_law_src", "_law_some"] (defScope sOf) := ⟨rfl, rfl, rfl, by decide +kernel, rfl, by decide +kernel, by decide +kernel⟩
theorem big : (1000000 : Nat) ≤ sizeLine := by decide
theorem ok_of {f fD : Addr} {fd fdD : FuncData} (F : Fun K "_law_of" "_law_of" sOf f fd) (T : Nm mg) (FD : Fun K "_law_draw" "_law_draw" sDraw fD fdD) (mD : mg "_law_draw" = some (.ref fD)) (bD : Binds K fdD ["_law_src", "_law_many"] []) :
    FnOk P w K mg base CX0 2 f fd ["_law_src", "_law_some"] (spOf K) := by
  have GD : FnOk P w K mg base CX0 1 fD fdD ["_law_src", "_law_many"] spDraw := ok_draw FD T
  refine F.ok scOf (fun vs H Q E h => ?_) (fun cdv A outer s H vs Q E hr h => ?_)
  · obtain ⟨p, q, cells, sv, rfl, _⟩ := h
    rfl
  · obtain ⟨p, q, cells, sv, rfl, hS, h⟩ := h
    refine ⟨_, pss_one (ps_ret (pe_ix ix_seq (pv 1) (pe_call GD hr (by rfl) mD FD.kp bD .nil pass0 (pa_cons (pv 0) (pa_cons (pe_callB call_len (by rfl) T.len PySem.boot_len (pa_cons (pv 1) pa_nil)) pa_nil))) fun _ _ => rfl)), ?_⟩
    rcases h with ⟨a, xs, rfl, hx, h0, h1, k⟩ | ⟨z, rfl, h0, h1, k⟩
    · refine ⟨_, rfl, _, rfl, _, rfl, _, xs.length, rfl, ?_, p, q, cells, _, rfl, hS, by omega, by omega, fun r H' r0 r1 S' B' => ?_⟩
      · rcases hx H (But.refl _ _) with z | z
        · exact .inl ⟨_, z, rfl⟩
        · exact .inr ⟨_, z, rfl⟩
      · obtain ⟨j, rfl⟩ := Int.eq_ofNat_of_zero_le r0
        have hj : j < xs.length := by omega
        have e : xs[j]? = some xs[j] := List.getElem?_eq_getElem hj
        rcases hx H' B' with z | z
        · exact .inl ⟨a, xs, _, _, rfl, rfl, z, atI_nat e, k j _ H' e S' B'⟩
        · exact .inr (.inl ⟨a, xs, _, _, rfl, rfl, z, atI_nat e, k j _ H' e S' B'⟩)
    · refine ⟨_, rfl, _, rfl, _, rfl, _, z.length, rfl, ⟨Nat.le_trans (Nat.le_of_lt h1) big, rfl⟩, p, q, cells, _, rfl, hS, by omega, by omega, fun r H' r0 r1 S' B' => ?_⟩
      obtain ⟨j, rfl⟩ := Int.eq_ofNat_of_zero_le r0
      have hl : z.cps.toList.length = z.length := by simp [Str.length]
      have hj : j < z.cps.toList.length := by omega
      have e : z.cps.toList[j]? = some z.cps.toList[j] := List.getElem?_eq_getElem hj
      exact .inr (.inr ⟨z, _, _, rfl, rfl, Nat.le_trans (Nat.le_of_lt h1) big, atI_nat e, k _ H' (List.getElem_mem hj) S' B'⟩)
def spSame (K : PySem.W.Frag) : Sp := fun vs H Q _ => ∃ (x y : V) (d e : PyData), vs = [x, y] ∧ Dp K H x d ∧ Dp K H y e ∧ Sm d ∧ Sm e ∧ Q (.bl (decide (d.shown = e.shown))) H
theorem scSame : FnScope ["_law_found", "_law_due"] ["_law_found", "_law_due"] (defScope sSame) := ⟨rfl, rfl, rfl, by decide +kernel, rfl, by decide +kernel, by decide +kernel⟩
theorem ok_same {f : Addr} {fd : FuncData} (F : Fun K "_law_same" "_law_same" sSame f fd) (T : Nm mg) : FnG P w K mg base CX0 1 f fd ["_law_found", "_law_due"] (spSame K) := by
  refine okG F scSame (fun vs H Q E h => ?_) (fun cdv A outer s H vs Q E hG hr h => ?_)
  · obtain ⟨x, y, d, e, rfl, _⟩ := h
    rfl
  · obtain ⟨x, y, d, e, rfl, hx, hy, sd, se, k⟩ := h
    refine ⟨_, pss_one (ps_ret (pe_cmpR op_eq (pe_callB (call_repr hG hr.units) (by rfl) T.repr (by decide +kernel) (pa_cons (pv 0) pa_nil)) (pe_callB (call_repr hG hr.units) (by rfl) T.repr (by decide +kernel) (pa_cons (pv 1) pa_nil)) (nomark _))), ?_⟩
    refine ⟨_, rfl, _, d, rfl, hx, sd, _, rfl, _, e, rfl, hy, se, rfl, ?_⟩
    have q : decide (V.str d.shown = V.str e.shown) = decide (d.shown = e.shown) := by
      by_cases z : d.shown = e.shown
      · rw [z, decide_eq_true rfl, decide_eq_true rfl]
      · rw [decide_eq_false z, decide_eq_false fun y => z (V.str.inj y)]
    show Q (.bl (decide (V.str d.shown = V.str e.shown))) H
    rw [q]
    exact k
/-! ### is_name, is_layer -/
def nameB (z : Str) : Bool := decide ((z.length : Int) ≤ 5) && (Txt.isascii z && (Txt.isalpha z && Txt.islower z))
def NameV (K : PySem.W.Frag) (H : Hp) (x : V) (b : Bool) : Prop := (∃ z : Str, x = .str z ∧ z.length ≤ 1000 ∧ b = nameB z) ∨ ∃ t, TyX K H x t ∧ PySem.W.kitOne K t (.type "str") = some false ∧ b = false
def spLet (K : PySem.W.Frag) : Sp := fun vs H Q _ => ∃ (x : V) (b : Bool), vs = [x, .int 5] ∧ NameV K H x b ∧ Q (.bl b) H
theorem scLet : FnScope ["value", "most"] ["value", "most"] (defScope sLet) := ⟨rfl, rfl, rfl, by decide +kernel, rfl, by decide +kernel, by decide +kernel⟩
structure NmN (mg : Str → Option Value) : Prop where
  isi : mg "isinstance" = none
  str : mg "str" = none
  len : mg "len" = none
theorem ok_let {f : Addr} {fd : FuncData} (F : Fun K "_are_letters" "_are_letters" sLet f fd) (T : NmN mg) : FnOk P w K mg base CX0 1 f fd ["value", "most"] (spLet K) := by
  refine F.ok scLet (fun vs H Q E h => ?_) (fun cdv A outer s H vs Q E hr h => ?_)
  · obtain ⟨x, b, rfl, _⟩ := h
    rfl
  · obtain ⟨x, b, rfl, hx, k⟩ := h
    refine ⟨_, pss_one (ps_ret (pe_and (pe_callB call_isi (by rfl) T.isi (by decide +kernel) (pa_cons (pv 0) (pa_cons (pe_bltn (v := .ty "str") (by rfl) T.str (by decide +kernel) rfl) pa_nil)))
      (pe_and (pe_cmpR op_le (pe_callB call_len (by rfl) T.len PySem.boot_len (pa_cons (pv 0) pa_nil)) (pv 1) (nomark _))
      (pe_and (pe_m0 PySem.F.slot_str_isascii PySem.F.type_str_isascii mt_isascii (pv 0)) (pe_and (pe_m0 PySem.F.slot_str_isalpha PySem.F.type_str_isalpha mt_isalpha (pv 0)) (pe_one (pe_m0 PySem.F.slot_str_islower PySem.F.type_str_islower mt_islower (pv 0)))))))), ?_⟩
    rcases hx with ⟨z, rfl, hz, rfl⟩ | ⟨t, ty, ht, rfl⟩
    · refine ⟨_, rfl, _, _, _, _, true, rfl, .ty "str", .base (.str z), kit_ty (by decide +kernel), _, rfl, iteT ?_⟩
      refine ⟨_, rfl, _, z.length, rfl, ⟨Nat.le_trans hz (by decide), rfl⟩, _, rfl, _, _, rfl, rfl, _, rfl, ?_⟩
      unfold nameB at k
      cases e1 : decide ((z.length : Int) ≤ 5) with
      | false =>
        rw [e1] at k
        exact iteF k
      | true =>
        rw [e1] at k
        refine iteT ⟨_, rfl, ⟨_, rfl⟩, _, rfl, rfl, trivial, _, rfl, ?_⟩
        cases e2 : Txt.isascii z with
        | false =>
          rw [e2] at k
          exact iteF k
        | true =>
          rw [e2] at k
          refine iteT ⟨_, rfl, ⟨_, rfl⟩, _, rfl, rfl, trivial, _, rfl, ?_⟩
          cases e3 : Txt.isalpha z with
          | false =>
            rw [e3] at k
            exact iteF k
          | true =>
            rw [e3] at k
            exact iteT ⟨_, rfl, ⟨_, rfl⟩, _, rfl, rfl, trivial, k⟩
    · exact ⟨_, rfl, _, _, _, _, false, rfl, .ty "str", ty, ht, _, rfl, iteF k⟩
def spName (K : PySem.W.Frag) : Sp := fun vs H Q _ => ∃ (x : V) (b : Bool), vs = [x] ∧ NameV K H x b ∧ Q (.bl b) H
theorem scName : FnScope ["value"] ["value"] (defScope sName) := ⟨rfl, rfl, rfl, by decide +kernel, rfl, by decide +kernel, by decide +kernel⟩
theorem ok_name {f fA : Addr} {fd fdA : FuncData} (F : Fun K "is_name" "is_name" sName f fd) (T : NmN mg) (FA : Fun K "_are_letters" "_are_letters" sLet fA fdA) (mA : mg "_are_letters" = some (.ref fA)) (bA : Binds K fdA ["value", "most"] []) :
    FnOk P w K mg base CX0 2 f fd ["value"] (spName K) := by
  have GA : FnOk P w K mg base CX0 1 fA fdA ["value", "most"] (spLet K) := ok_let FA T
  refine F.ok scName (fun vs H Q E h => ?_) (fun cdv A outer s H vs Q E hr h => ?_)
  · obtain ⟨x, b, rfl, _⟩ := h
    rfl
  · obtain ⟨x, b, rfl, hx, k⟩ := h
    refine ⟨_, pss_one (ps_ret (pe_call GA hr (by rfl) mA FA.kp bA .nil pass0 (pa_cons (pv 0) (pa_cons pe_int pa_nil)))), ?_⟩
    exact ⟨_, rfl, x, b, rfl, hx, k⟩
/-- some data stand among the first n layers -/
def laysD : List PyData := [.str "foot", .str "cart"]
def layB (n : Nat) (d : PyData) : Bool := (laysD.take n).any fun z => PyData.eqv z d
def spLayer (K : PySem.W.Frag) : Sp := fun vs H Q _ => ∃ (x : V) (d : PyData) (n : Nat), vs = [x, .int n] ∧ (n = 1 ∨ n = 2) ∧ Dp K H x d ∧ Sm d ∧ ∀ H', Same H H' → Q (.bl (layB n d)) H'
theorem scLayer : FnScope ["value", "layers"] ["value", "layers"] (defScope sLayer) := ⟨rfl, rfl, rfl, by decide +kernel, rfl, by decide +kernel, by decide +kernel⟩
structure NmL (K : PySem.W.Frag) (mg : Str → Option Value) (L : Addr) : Prop where
  lays : mg "LAYERS" = some (.ref L)
  them : ∀ H, SqT K H L [.str "foot", .str "cart"]
theorem strs_two {H : Hp} : DpAll K H [.str "foot", .str "cart"] laysD := .cons (.str _) (.cons (.str _) .nil)
theorem ok_layer {f L : Addr} {fd : FuncData} (F : FunD K "is_layer" "is_layer" (defArgs sLayer) (defBody sLayer) (defScope sLayer) [.int 2] [] f fd) (T : NmL K mg L) : FnOk P w K mg base CX0 1 f fd ["value", "layers"] (spLayer K) := by
  refine F.ok scLayer (fun vs H Q E h => ?_) (fun cdv A outer s H vs Q E hr h => ?_)
  · obtain ⟨x, d, n, rfl, _⟩ := h
    rfl
  · obtain ⟨x, d, n, rfl, hn, hx, hd, k⟩ := h
    have hu : A.units + 3 + 65 < cLine := by
      have := hr.un
      show _ < _
      simp only [PySem.Around.deeper_units] at this
      omega
    refine ⟨_, PSs.nox (pss_one (ps_ret (pe_cmpR (op_inT hu) (pv 0) (pe_slice sl_tupA (pe_glob (v := .ref L) (by rfl) T.lays rfl) po_none (po_some (pv 1))) (by rfl)))), ?_⟩
    refine ⟨_, rfl, _, rfl, _, rfl, L, _, rfl, T.them H, fun hw => ?_, fun hw p hp => ?_⟩
    · have e : n = 2 := by
        rcases hn with rfl | rfl
        · exact absurd hw.2 (by decide)
        · rfl
      subst e
      refine ⟨d, laysD, hx, .tup (T.them H) strs_two, hd.shaped, by decide +kernel, ?_⟩
      exact k H (Same.refl H)
    · have e : n = 1 := by
        rcases hn with rfl | rfl
        · rfl
        · exact absurd ⟨rfl, rfl⟩ hw
      subst e
      have sm : Same H (upd H p (.tup (cutV [.str "foot", .str "cart"] none (some ((1 : Nat) : Int))))) := fun b o z => by rw [upd_ne (ne_of_none z hp)]; exact z
      refine ⟨d, [.str "foot"], Dp.same sm d x hx, .tup (SqT.of upd_same) (.cons (.str _) .nil), hd.shaped, by decide +kernel, ?_⟩
      exact k _ sm
end
end Lw

set_option maxRecDepth 100000
namespace Lw
open PySem L2 VG
/-! ### words of drawn signs -/
def alpha : Str := "abcdefghijklmnopqrstuvwxyzabcdefghijklmnopqrstuvwxyzA1 ?+"
def lowers : Str := "abcdefghijklmnopqrstuvwxyz"
def word (cs : List Nat) : Str := ⟨cs.toArray⟩
theorem word_list (cs : List Nat) : (word cs).cps.toList = cs := rfl
theorem word_len (cs : List Nat) : (word cs).length = cs.length := by simp [word, Str.length]
def isLow (c : Nat) : Bool := decide (97 ≤ c ∧ c ≤ 122)
theorem alpha_ok : ∀ c ∈ alpha.cps.toList, c < 128 ∧ PySem.Unicode.isAlpha c = (isLow c || decide (c = 65)) ∧ PySem.Unicode.isLower c = isLow c ∧ (PySem.Unicode.isUpper c || PySem.Unicode.isTitle c) = decide (c = 65) ∧ decide (c ∈ lowers.cps.toList) = isLow c := by
  decide +kernel
theorem app_list (x y : Str) : (x ++ y).cps.toList = x.cps.toList ++ y.cps.toList := Array.toList_append
theorem str_ext {x y : Str} (h : x.cps.toList = y.cps.toList) : x = y := by
  obtain ⟨a⟩ := x
  obtain ⟨b⟩ := y
  exact congrArg Str.mk (Array.toList_inj.mp h)
theorem join_list : ∀ cs : List Nat, (Str.join "" (cs.map fun c => (⟨#[c]⟩ : Str))).cps.toList = cs
  | [] => rfl
  | [_] => rfl
  | c :: d :: r => by
    have ih := join_list (d :: r)
    show ((⟨#[c]⟩ : Str) ++ ("" : Str) ++ Str.join "" ((d :: r).map fun c => (⟨#[c]⟩ : Str))).cps.toList = _
    rw [app_list, app_list, ih]
    rfl
theorem join_signs (cs : List Nat) : Txt.join "" (cs.map fun c => (⟨#[c]⟩ : Str)) = word cs := by
  refine str_ext ?_
  rw [show Txt.join "" (cs.map fun c => (⟨#[c]⟩ : Str)) = Str.join "" (cs.map fun c => (⟨#[c]⟩ : Str)) from StrLaws.glued_eq_join _ _, join_list]
  rfl
theorem all_list (p : Nat → Bool) (cs : List Nat) : (word cs).cps.all p = cs.all p := by simp [word]
theorem any_list (p : Nat → Bool) (cs : List Nat) : (word cs).cps.any p = cs.any p := by simp [word]
theorem name_word {cs : List Nat} (h : ∀ c ∈ cs, c ∈ alpha.cps.toList) : nameB (word cs) = (decide (1 ≤ (cs.length : Int) ∧ (cs.length : Int) ≤ 5) && (cs.filter fun c => !decide (c ∈ lowers.cps.toList)).isEmpty) := by
  have f := fun c hc => alpha_ok c (h c hc)
  unfold nameB Txt.isascii Txt.isalpha Txt.islower
  rw [word_len, all_list, all_list, any_list, any_list, Bool.eq_iff_iff]
  simp only [Bool.and_eq_true, decide_eq_true_eq, List.all_eq_true, List.any_eq_true, Bool.not_eq_true', List.any_eq_false, List.isEmpty_iff, List.filter_eq_nil_iff, Bool.not_eq_true]
  constructor
  · rintro ⟨h5, _, ⟨h0, hA⟩, ⟨x, hx, hB⟩, hC⟩
    refine ⟨⟨by omega, h5⟩, fun c hc => ?_⟩
    obtain ⟨_, a1, a2, a3, a4⟩ := f c hc
    have c1 := hC c hc
    have c2 := hA c hc
    rw [a3] at c1
    rw [a1] at c2
    rw [a4]
    simp only [Bool.or_eq_true, decide_eq_true_eq, decide_eq_false_iff_not] at c1 c2
    rcases c2 with z | z
    · simp [z]
    · exact absurd z c1
  · rintro ⟨⟨h1, h5⟩, hF⟩
    have low : ∀ c ∈ cs, isLow c = true := fun c hc => by
      obtain ⟨_, a1, a2, a3, a4⟩ := f c hc
      have z := hF c hc
      rw [a4] at z
      simpa using z
    refine ⟨h5, fun c hc => (f c hc).1, ⟨by omega, fun c hc => by rw [(f c hc).2.1, low c hc]; rfl⟩, ?_, fun c hc => ?_⟩
    · cases cs with
      | nil => exact absurd h1 (by decide)
      | cons c r => exact ⟨c, List.mem_cons_self, by rw [(f c List.mem_cons_self).2.2.1]; exact low c List.mem_cons_self⟩
    · rw [(f c hc).2.2.2.1]
      have z := low c hc
      unfold isLow at z
      have := of_decide_eq_true z
      exact decide_eq_false (by omega)
theorem name_line (x : Str) : nameB (x ++ "\n") = false := by
  have e : Txt.isalpha (x ++ "\n") = false := by
    unfold Txt.isalpha
    have q : (x ++ "\n" : Str).cps.all PySem.Unicode.isAlpha = false := by
      rw [← Array.all_toList, app_list, List.all_append]
      have z : (("\n" : Str).cps.toList.all PySem.Unicode.isAlpha) = false := by decide +kernel
      rw [z, Bool.and_false]
    rw [q, Bool.and_false]
  unfold nameB
  rw [e]
  simp
end Lw

set_option maxRecDepth 100000
namespace Lw
open PySem L2 VG
abbrev NL : List Str := ["_law_script", "_law_src", "_law_turn", "_law_k", "_law_word", "_law_sign", "_law_good", "_law_odd", "_law_got"]
def spLaw (K : PySem.W.Frag) : Sp := fun vs H Q _ => ∃ (a : Addr) (ns : List Int), vs = [.ref a] ∧ SqL K H a (ns.map V.int) ∧ ns.length ≤ 63 ∧ ∀ H', Q (.bl true) H'
theorem scLaw : FnScope NL ["_law_script"] (defScope sLaw) := ⟨rfl, rfl, rfl, by decide +kernel, rfl, by decide +kernel, by decide +kernel⟩
structure NmW (K : PySem.W.Frag) (mg : Str → Option Value) (S : Addr) : Prop where
  rng : mg "range" = none
  stran : mg "STRANGERS" = some (.ref S)
  them : ∀ H, SqT K H S [.str "?1", .str "?2"]
theorem same_bools {b c : List Bool} (h : b = c) : (PyData.list (b.map PyData.bool)).shown = (PyData.list (c.map PyData.bool)).shown := by rw [h]
theorem Src.same {H H' : Hp} {p q : Addr} {cells : List Int} (h : Src H p q cells) (e : Same H H') : Src H' p q cells := by
  obtain ⟨⟨i, c, seed, n, hp, hi, hc⟩, hq, hl, hn⟩ := h
  exact ⟨⟨i, c, seed, n, e _ _ hp, hi, hc⟩, e _ _ hq, hl, hn⟩
theorem Src.at_ {H : Hp} {p q : Addr} {cells : List Int} (h : Src H p q cells) : ∃ o, H p = some o := let ⟨_, _, _, _, e, _⟩ := h.ex; ⟨_, e⟩
theorem same_upd {H : Hp} {D : Addr} {o : HO} (h : H D = none) : Same H (upd H D o) := fun b u e => by rw [upd_ne (ne_of_none e h)]; exact e
theorem Src.ne1 {H : Hp} {p q D : Addr} {cells : List Int} (h : Src H p q cells) (e : H D = none) : D ≠ p := fun z => by
  obtain ⟨o, q⟩ := h.at_
  rw [← z, e] at q
  cases q
/-- a list that grows beside the source -/
theorem Src.over {H : Hp} {p q D : Addr} {cells : List Int} {o : HO} (h : Src H p q cells) (n1 : D ≠ p) (n2 : D ≠ q) : Src (upd H D o) p q cells := by
  obtain ⟨⟨i, c, seed, n, hp, hi, hc⟩, hq, hl, hn⟩ := h
  exact ⟨⟨i, c, seed, n, (upd_ne n1.symm).trans hp, hi, hc⟩, (upd_ne n2.symm).trans hq, hl, hn⟩
theorem Src.ne2 {H : Hp} {p q D : Addr} {cells : List Int} (h : Src H p q cells) (e : H D = none) : D ≠ q := fun z => by
  have q := h.cs
  rw [← z, e] at q
  cases q
def sgn (c : Nat) : V := .str ⟨#[c]⟩
def sgnD (c : Nat) : PyData := .str ⟨#[c]⟩
theorem sgns (cs : List Nat) : (cs.map fun c => (⟨#[c]⟩ : Str)).map V.str = cs.map sgn := by rw [List.map_map]; rfl
theorem sgn_lens : ∀ cs : List Nat, ((cs.map fun c => (⟨#[c]⟩ : Str)).map (·.length)).sum = cs.length
  | [] => rfl
  | c :: r => by
    have := sgn_lens r
    simp only [List.map_cons, List.sum_cons, List.length_cons, this]
    show 1 + r.length = r.length + 1
    omega
theorem sgn_dp {K : PySem.W.Frag} {H : Hp} : ∀ cs : List Nat, DpAll K H (cs.map sgn) (cs.map sgnD)
  | [] => .nil
  | c :: r => .cons (.str _) (sgn_dp r)
theorem sgn_lay : ∀ cs : List Nat, (∀ c ∈ cs, c ∈ alpha.cps.toList) → PyData.canLayAll0 (cs.map sgnD) = true ∧ PyData.depthAll (cs.map sgnD) = 0
  | [], _ => ⟨rfl, rfl⟩
  | c :: r, h => by
    obtain ⟨a, b⟩ := sgn_lay r fun d hd => h d (List.mem_cons_of_mem _ hd)
    have z := (alpha_ok c (h c List.mem_cons_self)).1
    have z2 : PyData.strOk (⟨#[c]⟩ : Str) = true := by simp [PyData.strOk]; omega
    simp only [List.map_cons, PyData.canLayAll0, PyData.depthAll, a, b, sgnD, PyData.canLay0, PyData.depth, z2, Bool.and_self, Nat.max_self, and_self]
theorem sgn_shaped {cs : List Nat} (h : ∀ c ∈ cs, c ∈ alpha.cps.toList) : SeqAt.shaped (.list (cs.map sgnD)) = true := by
  obtain ⟨a, b⟩ := sgn_lay cs h
  show (PyData.canLay0 (.list (cs.map sgnD)) && decide (PyData.depth (.list (cs.map sgnD)) ≤ 64)) = true
  simp only [PyData.canLay0, PyData.depth, a, b]
  rfl
theorem eqv_nil : ∀ cs : List Nat, PyData.eqv (.list (cs.map sgnD)) (.list []) = cs.isEmpty
  | [] => by simp [PyData.eqv, PyData.eqvAll]
  | c :: r => by simp [PyData.eqv, PyData.eqvAll]
theorem word_sm {cs : List Nat} (h : ∀ c ∈ cs, c ∈ alpha.cps.toList) (hl : cs.length ≤ 7) : Sm (.str (word cs)) := by
  refine ⟨?_, by simp [PyData.depth], ?_⟩
  · simp only [VG.sm, PyData.strOk, all_list, List.all_eq_true, decide_eq_true_eq]
    exact fun c hc => Nat.lt_trans (alpha_ok c (h c hc)).1 (by decide)
  · simp only [PyData.bulk]
    have : (word cs).cps.size = cs.length := by simp [word]
    omega
theorem bools_sm (a b c : Bool) : Sm (.list [.bool a, .bool b, .bool c]) := ⟨by simp [VG.sm, VG.smAll], by simp [PyData.depth, PyData.depthAll], by simp [PyData.bulk, PyData.bulkAll]⟩
def goodB (cs : List Nat) : Bool := decide (1 ≤ (cs.length : Int) ∧ (cs.length : Int) ≤ 5) && (cs.filter fun c => !decide (c ∈ lowers.cps.toList)).isEmpty
section
variable {P : Program} {w : World} {K : PySem.W.Frag} {mg : Str → Option Value} {base : Heap}
theorem ok_law {f fS fD fO fE fN fY fA L S : Addr} {fd fdS fdD fdO fdE fdN fdY fdA : FuncData} (F : Fun K "law" "law" sLaw f fd) (T : Nm mg) (TN : NmN mg) (TL : NmL K mg L) (TW : NmW K mg S)
    (FS : Fun K "_law_source" "_law_source" sSource fS fdS) (mS : mg "_law_source" = some (.ref fS)) (bS : Binds K fdS ["_law_script"] [])
    (FD : Fun K "_law_draw" "_law_draw" sDraw fD fdD) (mD : mg "_law_draw" = some (.ref fD)) (bD : Binds K fdD ["_law_src", "_law_many"] [])
    (FO : Fun K "_law_of" "_law_of" sOf fO fdO) (mO : mg "_law_of" = some (.ref fO)) (bO : Binds K fdO ["_law_src", "_law_some"] [])
    (FE : Fun K "_law_same" "_law_same" sSame fE fdE) (mE : mg "_law_same" = some (.ref fE)) (bE : Binds K fdE ["_law_found", "_law_due"] [])
    (FA : Fun K "_are_letters" "_are_letters" sLet fA fdA) (mA : mg "_are_letters" = some (.ref fA)) (bA : Binds K fdA ["value", "most"] [])
    (FN : Fun K "is_name" "is_name" sName fN fdN) (mN : mg "is_name" = some (.ref fN)) (bN : Binds K fdN ["value"] []) (kN : KBn K fdN ["value"] 0 ["value"] (fun us ws => ws) (fun us ws => ws))
    (FY : FunD K "is_layer" "is_layer" (defArgs sLayer) (defBody sLayer) (defScope sLayer) [.int 2] [] fY fdY) (mY : mg "is_layer" = some (.ref fY)) (bY2 : Binds K fdY ["value", "layers"] [])
    {dsY : List Value} (vY : Vals [.int 2] dsY) (bY1 : Binds K fdY ["value", "layers"] dsY) (kY : KBn K fdY ["value", "layers"] 0 ["layers", "value"] (fun us ws => ws.reverse) (fun us ws => ws.reverse)) :
    FnG P w K mg base CX0 3 f fd ["_law_script"] (spLaw K) := by
  have GS : FnOk P w K mg base CX0 1 fS fdS ["_law_script"] (spSource K) := ok_source FS T
  have GD : FnOk P w K mg base CX0 1 fD fdD ["_law_src", "_law_many"] spDraw := ok_draw FD T
  have GO : FnOk P w K mg base CX0 2 fO fdO ["_law_src", "_law_some"] (spOf K) := ok_of FO T FD mD bD
  have GE : FnG P w K mg base CX0 1 fE fdE ["_law_found", "_law_due"] (spSame K) := ok_same FE T
  have GN : FnOk P w K mg base CX0 2 fN fdN ["value"] (spName K) := ok_name FN TN FA mA bA
  have GY : FnOk P w K mg base CX0 1 fY fdY ["value", "layers"] (spLayer K) := ok_layer FY TL
  refine okG F scLaw (fun vs H Q E h => ?_) (fun cdv A outer s H vs Q E hG hr h => ?_)
  · obtain ⟨a, ns, rfl, _⟩ := h
    rfl
  · obtain ⟨a, ns, rfl, hS, hlen, k⟩ := h
    have nd := scLaw.nd
    have hr1 : Room 1 _ := hr.mono (by decide)
    have hu : A.units + 3 + 65 < cLine := by
      have := hr.un
      simp only [PySem.Around.deeper_units] at this
      omega
    refine ⟨_, pss_cons (ps_set (i := 1) nd rfl (Or.inr rfl) (pe_call GS hr1 (by rfl) mS FS.kp bS .nil pass0 (pa_cons (pv 0) pa_nil)))
      (pss_cons (ps_for PassesOwn.never rfl (pi_range1 (by rfl) TW.rng (pa_cons pe_int pa_nil)) (pg_name (i := 2) nd rfl (Or.inl rfl))
        (C8.pss_cut (ps_set (i := 4) nd rfl (Or.inl rfl) (pe_join pe_str (pe_lc (own := [("_law_k", 3)]) (g := gName 3) (tt := tYes) rfl nd (pi_range1 (by rfl) TW.rng (pa_cons (pe_call GD hr1 (by rfl) mD FD.kp bD .nil pass0 (pa_cons (pv 1) (pa_cons pe_int pa_nil))) pa_nil))
            (blkOk_by (own := [("_law_k", 3)]) (N := NL) (sc := defScope sLaw) (by decide +kernel)) (fun _ _ _ _ _ => pg_name (i := 3) nd rfl (Or.inl rfl)) (fun _ _ _ _ _ => pts_nil)
            (fun _ _ _ _ _ => pe_call GO hr (by rfl) mO FO.kp bO .nil pass0 (pa_cons (pv 1) (pa_cons pe_str pa_nil))))))
        (C8.pss_cut (ps_set (i := 6) nd rfl (Or.inl rfl) (pe_and (pe_chain op_le op_le pe_int (pe_callB call_len (by rfl) T.len PySem.boot_len (pa_cons (pv 4) pa_nil)) pe_int)
            (pe_one (pe_cmpR (op_eqD hr.units) (pe_lc (own := [("_law_sign", 5)]) (g := gName 5) rfl nd (pi_str (pv 4)) (blkOk_by (own := [("_law_sign", 5)]) (N := NL) (sc := defScope sLaw) (by decide +kernel)) (fun _ _ _ _ _ => pg_name (i := 5) nd rfl (Or.inl rfl))
              (fun _ _ _ _ _ => pts_one (pt_cmpR op_notIn_sign (pv 5) pe_str (by rfl))) (fun _ _ _ _ _ => pv 5)) (pe_lst pa_nil) (nomark _)))))
        (pss_one (ps_if (pt_not (pt_val (pe_callG GE hG hr1 (by rfl) mE FE.kp bE .nil pass0 (pa_cons (pe_lst (pa_cons (pe_call GN hr (by rfl) mN FN.kp bN .nil pass0 (pa_cons (pv 4) pa_nil))
            (pa_cons (pe_callN0 GN hr (by rfl) mN FN.kp kN pass0 (pk_cons (pe_op op_add_str (pv 4) pe_str) pk_nil)) (pa_cons (pe_call GY hr1 (by rfl) mY FY.kp bY1 vY pass0 (pa_cons (pv 4) pa_nil)) pa_nil))))
            (pa_cons (pe_lst (pa_cons (pv 6) (pa_cons pe_bl (pa_cons (pe_cmpR (op_inT hu) (pv 4) (pe_tup (pa_cons pe_str (pa_cons pe_str pa_nil))) (by rfl)) pa_nil)))) pa_nil)))))
          (pss_one (ps_ret pe_bl)) pss_nil)))))
      (pss_cons (ps_set (i := 7) nd rfl (Or.inl rfl) (pe_call GO hr (by rfl) mO FO.kp bO .nil pass0 (pa_cons (pv 1) (pa_cons (pe_lst (pa_cons pe_non (pa_cons pe_bl (pa_cons pe_int (pa_cons pe_str (pa_cons pe_str (pa_cons (pe_tup (pa_cons pe_str pa_nil)) (pa_cons (pe_lst (pa_cons pe_str pa_nil)) (pa_cons pe_str (pa_cons pe_str pa_nil)))))))))) pa_nil))))
      (pss_cons (ps_set (i := 8) nd rfl (Or.inl rfl) (pe_lst (pa_cons (pe_call GN hr (by rfl) mN FN.kp bN .nil pass0 (pa_cons (pv 7) pa_nil)) (pa_cons (pe_call GY hr1 (by rfl) mY FY.kp bY1 vY pass0 (pa_cons (pv 7) pa_nil))
          (pa_cons (pe_call GY hr1 (by rfl) mY FY.kp bY1 vY pass0 (pa_cons pe_str pa_nil)) (pa_cons (pe_callN0 GY hr1 (by rfl) mY FY.kp kY pass0 (pk_cons pe_int (pk_cons pe_str pk_nil))) (pa_cons (pe_call GY hr1 (by rfl) mY FY.kp bY2 .nil pass0 (pa_cons pe_str (pa_cons pe_int pa_nil)))
          (pa_cons (pe_call GN hr (by rfl) mN FN.kp bN .nil pass0 (pa_cons pe_str pa_nil)) pa_nil))))))))
      (pss_one (ps_ret (pe_and (pe_callG GE hG hr1 (by rfl) mE FE.kp bE .nil pass0 (pa_cons (pv 8) (pa_cons (pe_lst (pa_cons pe_bl (pa_cons pe_bl (pa_cons pe_bl (pa_cons pe_bl (pa_cons pe_bl (pa_cons pe_bl pa_nil))))))) pa_nil)))
        (pe_one (pe_callG GE hG hr1 (by rfl) mE FE.kp bE .nil pass0 (pa_cons (pe_lst (pa_cons (pe_glob (v := .ref L) (by rfl) TL.lays rfl) (pa_cons (pe_glob (v := .ref S) (by rfl) TW.stran rfl) pa_nil)))
          (pa_cons (pe_lst (pa_cons (pe_tup (pa_cons pe_str (pa_cons pe_str pa_nil))) (pa_cons (pe_tup (pa_cons pe_str (pa_cons pe_str pa_nil))) pa_nil))) pa_nil)))))))))), ?_⟩
    refine ⟨_, rfl, a, ns, rfl, hS, hlen, fun p q H1 hp0 hq0 sm1 S1 => ?_⟩
    refine ⟨8, rfl, by decide, by decide, for_range (lo := 0) (n := 8) (fun i σ H' => ∃ (cells : List Int) (o2 o3 o4 o5 o6 : Option V), σ = [some (.ref a), some (.ref p), o2, o3, o4, o5, o6, none, none] ∧ Src H' p q cells)
      ⟨ns, none, none, none, none, none, rfl, S1⟩ ?_ ?_⟩
    · rintro i σ H2 hi ⟨cells, o2, o3, o4, o5, o6, rfl, S2⟩
      refine ⟨fun σ H' => ∃ (cells cs : List _) (o2 o3 o5 o6 : Option V), σ = [some (.ref a), some (.ref p), o2, o3, some (.str (word cs)), o5, o6, none, none] ∧ Src H' p q cells ∧ cs.length ≤ 7 ∧ ∀ c ∈ cs, c ∈ alpha.cps.toList, ?_, ?_⟩
      · -- the word
        refine ⟨⟨_, rfl⟩, _, rfl, p, q, cells, 8, rfl, S2, by decide, by decide, fun r H3 r0 r1 S3 B3 => ⟨r, rfl, by omega, by omega, fun D hD => ?_⟩⟩
        have n1 := S3.ne1 hD
        have n2 := S3.ne2 hD
        refine lc_range (lo := 0) (n := r.toNat) (fun i H' => ∃ (cells : List Int) (cs : List Nat), H' D = some (.lst (cs.map sgn)) ∧ cs.length = i ∧ (∀ c ∈ cs, c ∈ alpha.cps.toList) ∧ Src H' p q cells)
          ⟨cells, [], upd_same, rfl, by simp, S3.over n1 n2⟩ ?_ ?_
        · rintro i H4 hi ⟨cells, cs, hD4, hl, hc, S4⟩
          refine ⟨rfl, ?_⟩
          refine ⟨_, rfl, p, q, cells, _, rfl, S4, .inr ⟨alpha, rfl, by decide +kernel, by decide +kernel, fun c H5 hc5 S5 B5 => ?_⟩⟩
          refine ⟨cs.map sgn, (B5 D n1).trans hD4, by rw [List.length_map]; exact Nat.lt_of_lt_of_le (show cs.length < 8 by omega) (by decide), cells, cs ++ [c], by rw [upd_same, List.map_append]; rfl, by rw [List.length_append, hl]; rfl, ?_, S5.over n1 n2⟩
          intro d hd
          rcases List.mem_append.mp hd with z | z
          · exact hc d z
          · rw [List.mem_singleton.mp z]
            exact hc5
        · rintro H4 ⟨cells, cs, hD4, hl, hc, S4⟩
          refine ⟨_, D, cs.map fun c => (⟨#[c]⟩ : Str), rfl, rfl, .inl (by rw [sgns]; exact SqL.of hD4), ?_, ?_⟩
          · rw [sgn_lens, List.length_map]
            show cs.length + cs.length * 0 ≤ 16777216
            omega
          · rw [join_signs]
            exact ⟨cells, cs, _, _, _, _, rfl, S4, by omega, hc⟩
      · rintro σ H3 ⟨cells, cs, o2, o3, o5, o6, rfl, S3, hl, hc⟩
        refine ⟨fun σ H' => ∃ (cells : List Int) (o2 o3 o5 : Option V), σ = [some (.ref a), some (.ref p), o2, o3, some (.str (word cs)), o5, some (.bl (goodB cs)), none, none] ∧ Src H' p q cells, ?_, ?_⟩
        · -- is it good
          refine ⟨_, rfl, _, (word cs).length, rfl, ⟨by rw [word_len]; exact Nat.le_trans hl (by decide), rfl⟩, _, _, rfl, rfl, _, rfl, ?_⟩
          rw [word_len]
          by_cases h1 : (1 : Int) ≤ (cs.length : Int)
          · rw [decide_eq_true h1]
            refine iteT ⟨_, _, rfl, rfl, _, rfl, ?_⟩
            try rw [word_len]
            by_cases h5 : (cs.length : Int) ≤ 5
            · rw [decide_eq_true h5]
              refine iteT ?_
              refine ⟨_, rfl, word cs, rfl, fun D hD => ?_⟩
              have n1 := S3.ne1 hD
              have n2 := S3.ne2 hD
              refine lc_it walk_str (fun i H' => H' D = some (.lst (((cs.take i).filter fun c => !decide (c ∈ lowers.cps.toList)).map sgn)) ∧ Src H' p q cells) ⟨upd_same, S3.over n1 n2⟩ (fun _ _ _ _ => trivial) ?_ ?_
              · rintro i x H4 H5 hi ⟨hD4, S4⟩ ⟨rfl, c, hc5, rfl⟩
                have hci : cs[i]? = some c := by
                  have z : (word cs).cps[i]? = some c := hc5
                  simpa [word] using z
                have tk : cs.take (i + 1) = cs.take i ++ [c] := by rw [List.take_add_one, hci]; rfl
                refine ⟨rfl, _, rfl, c, _, rfl, rfl, _, rfl, ?_⟩
                rw [tk, List.filter_append]
                refine ite2 (fun hb => ?_) (fun hb => ?_)
                · have hb' : (!decide (c ∈ lowers.cps.toList)) = true := hb
                  have e1 : ([c].filter fun c => !decide (c ∈ lowers.cps.toList)) = [c] := by rw [List.filter_cons, if_pos hb']; rfl
                  rw [e1, List.map_append]
                  refine ⟨_, rfl, _, hD4, ?_, upd_same, S4.over n1 n2⟩
                  rw [List.length_map]
                  have z1 := List.length_filter_le (fun c => !decide (c ∈ lowers.cps.toList)) (cs.take i)
                  have z2 := List.length_take_le' i cs
                  exact Nat.lt_of_lt_of_le (show _ < 1000000 by omega) big
                · have hb' : ¬ (!decide (c ∈ lowers.cps.toList)) = true := hb
                  have e1 : ([c].filter fun c => !decide (c ∈ lowers.cps.toList)) = [] := by rw [List.filter_cons, if_neg hb']; rfl
                  rw [e1, List.append_nil]
                  exact ⟨hD4, S4⟩
              · rintro H4 ⟨hD4, S4⟩
                have tk : cs.take (word cs).cps.size = cs := List.take_of_length_le (by simp [word])
                rw [tk] at hD4
                refine ⟨by show 0 ≤ sizeLine; decide, fun p2 hp2 => ⟨.list ((cs.filter fun c => !decide (c ∈ lowers.cps.toList)).map sgnD), .list [], ?_, .lst (SqL.of upd_same) .nil, ?_, by decide +kernel, ?_⟩⟩
                · exact .lst (SqL.of ((upd_ne (ne_of_none hD4 hp2)).trans hD4)) (sgn_dp _)
                · exact sgn_shaped fun c hc5 => hc c (List.mem_filter.mp hc5).1
                · rw [eqv_nil]
                  have eg : goodB cs = (cs.filter fun c => !decide (c ∈ lowers.cps.toList)).isEmpty := by
                    unfold goodB
                    rw [decide_eq_true (show (1 : Int) ≤ (cs.length : Int) ∧ (cs.length : Int) ≤ 5 from ⟨h1, h5⟩), Bool.true_and]
                  refine ⟨cells, o2, o3, o5, ?_, S4.same (same_upd hp2)⟩
                  rw [eg]
                  rfl
            · rw [decide_eq_false h5]
              refine iteF ?_
              exact ⟨cells, _, _, _, by unfold goodB; rw [decide_eq_false (fun z => h5 z.2)]; rfl, S3⟩
          · rw [decide_eq_false h1]
            refine iteF ⟨_, rfl, iteF ?_⟩
            exact ⟨cells, _, _, _, by unfold goodB; rw [decide_eq_false (fun z => h1 z.1)]; rfl, S3⟩
        · rintro σ H4 ⟨cells, o2, o3, o5, rfl, S4⟩
          have wl : (word cs).length ≤ 7 := by rw [word_len]; exact hl
          have wS := word_sm hc hl
          refine ⟨_, rfl, _, _, rfl, .inl ⟨word cs, rfl, by omega, rfl⟩, ?_⟩
          have wl2 : (word cs ++ "\n" : Str).length ≤ 8 := by
            have z : (word cs ++ "\n" : Str).length = (word cs).length + 1 := strLen_append _ _
            omega
          refine ⟨_, rfl, _, _, rfl, rfl, Nat.le_trans (show _ ≤ 8 by show (word cs).length + 1 ≤ 8; omega) (by decide), rfl, rfl, _, _, rfl, .inl ⟨word cs ++ "\n", rfl, by omega, rfl⟩, ?_⟩
          refine ⟨_, rfl, .str (word cs), .str (word cs), 2, rfl, .inr rfl, .str _, wS, fun H5 m5 => ⟨by show 3 ≤ sizeLine; decide, fun p1 hp1 => ?_⟩⟩
          refine ⟨_, rfl, _, rfl, by show 2 ≤ sizeLine; decide, fun t1 ht1 => ⟨.str (word cs), laysD, .str _, .tup (SqT.of upd_same) strs_two, wS.shaped, by decide +kernel, by show 3 ≤ sizeLine; decide, fun p2 hp2 => ?_⟩⟩
          have mt := same_upd (o := .tup [.str "foot", .str "cart"]) ht1
          have mp := same_upd (o := .lst [.bl (goodB cs), .bl false, .bl (layB 2 (.str (word cs)))]) hp2
          refine ⟨.ref p1, .ref p2, .list [.bool (nameB (word cs)), .bool (nameB (word cs ++ "\n")), .bool (layB 2 (.str (word cs)))], .list [.bool (goodB cs), .bool false, .bool (layB 2 (.str (word cs)))], rfl,
            .lst (SqL.of (mp _ _ (mt _ _ upd_same))) (.cons (.bl _) (.cons (.bl _) (.cons (.bl _) .nil))), .lst (SqL.of upd_same) (.cons (.bl _) (.cons (.bl _) (.cons (.bl _) .nil))), bools_sm _ _ _, bools_sm _ _ _, _, rfl, ?_⟩
          have eq : decide ((PyData.list [.bool (nameB (word cs)), .bool (nameB (word cs ++ "\n")), .bool (layB 2 (.str (word cs)))]).shown = (PyData.list [.bool (goodB cs), .bool false, .bool (layB 2 (.str (word cs)))]).shown) = true := by
            rw [name_line, name_word hc]
            exact decide_eq_true rfl
          rw [eq]
          exact iteF ⟨cells, _, _, _, _, _, rfl, ((S4.same m5).same (same_upd hp1)).same (mt.trans mp)⟩
    · rintro σ H2 ⟨cells, o2, o3, o4, o5, o6, rfl, S2⟩
      refine ⟨_, rfl, by show 1 ≤ sizeLine; decide, fun ta hta => ⟨by show 1 ≤ sizeLine; decide, fun la hla => ⟨by show 9 ≤ sizeLine; decide, fun u hu9 => ?_⟩⟩⟩
      have s1 := same_upd (o := .tup [.str "a"]) hta
      have s2 := same_upd (o := .lst [.str "a"]) hla
      have s3 := same_upd (o := .lst [.non, .bl true, .int 3, .str "", .str "abcdef", .ref ta, .ref la, .str "Foot", .str "?1"]) hu9
      have S3 := ((S2.same s1).same s2).same s3
      have nu : u ≠ p := ((S2.same s1).same s2).ne1 hu9
      have nt : ta ≠ p := S2.ne1 hta
      have nl : la ≠ p := (S2.same s1).ne1 hla
      refine ⟨p, q, cells, .ref u, rfl, S3, .inl ⟨u, [.non, .bl true, .int 3, .str "", .str "abcdef", .ref ta, .ref la, .str "Foot", .str "?1"], rfl, fun H' B => .inl (SqL.of ((B u nu).trans upd_same)), by show 0 < 9; decide, by show 9 < 1000000; decide, fun i x H4 hx S4 B4 => ?_⟩⟩
      have atT : H4 ta = some (.tup [.str "a"]) := (B4 ta nt).trans (s3 _ _ (s2 _ _ upd_same))
      have atL : H4 la = some (.lst [.str "a"]) := (B4 la nl).trans (s3 _ _ upd_same)
      have key : ∃ d, NameV K H4 x false ∧ Dp K H4 x d ∧ Sm d ∧ layB 2 d = false := by
        match i, hx with
        | 0, e => cases e; exact ⟨.none, .inr ⟨_, .base .non, kit_ty (by decide +kernel), rfl⟩, .non, ⟨rfl, by decide, by decide⟩, by decide +kernel⟩
        | 1, e => cases e; exact ⟨.bool true, .inr ⟨_, .base (.bl true), kit_ty (by decide +kernel), rfl⟩, .bl _, ⟨rfl, by decide, by decide⟩, by decide +kernel⟩
        | 2, e => cases e; exact ⟨.int 3, .inr ⟨_, .base (.int 3), kit_ty (by decide +kernel), rfl⟩, .int _, ⟨by decide +kernel, by decide, by decide⟩, by decide +kernel⟩
        | 3, e => cases e; exact ⟨.str "", .inl ⟨_, rfl, by decide, by decide +kernel⟩, .str _, ⟨by decide +kernel, by decide, by decide⟩, by decide +kernel⟩
        | 4, e => cases e; exact ⟨.str "abcdef", .inl ⟨_, rfl, by decide, by decide +kernel⟩, .str _, ⟨by decide +kernel, by decide, by decide +kernel⟩, by decide +kernel⟩
        | 5, e => cases e; exact ⟨.tuple [.str "a"], .inr ⟨_, .base (.tup atT), kit_ty (by decide +kernel), rfl⟩, .tup (SqT.of atT) (.cons (.str _) .nil), ⟨by decide +kernel, by decide +kernel, by decide +kernel⟩, by decide +kernel⟩
        | 6, e => cases e; exact ⟨.list [.str "a"], .inr ⟨_, .base (.lst atL), kit_ty (by decide +kernel), rfl⟩, .lst (SqL.of atL) (.cons (.str _) .nil), ⟨by decide +kernel, by decide +kernel, by decide +kernel⟩, by decide +kernel⟩
        | 7, e => cases e; exact ⟨.str "Foot", .inl ⟨_, rfl, by decide, by decide +kernel⟩, .str _, ⟨by decide +kernel, by decide, by decide +kernel⟩, by decide +kernel⟩
        | 8, e => cases e; exact ⟨.str "?1", .inl ⟨_, rfl, by decide, by decide +kernel⟩, .str _, ⟨by decide +kernel, by decide, by decide +kernel⟩, by decide +kernel⟩
        | n + 9, e => cases e
      obtain ⟨d, kN1, kD, kS, kL⟩ := key
      have sm : ∀ z : Str, PyData.strOk z = true → z.cps.size ≤ 100 → Sm (.str z) := fun z h1 h2 => ⟨by simp only [VG.sm]; exact h1, by simp [PyData.depth], by simp only [PyData.bulk]; omega⟩
      refine ⟨_, rfl, x, false, rfl, kN1, ?_⟩
      refine ⟨_, rfl, x, d, 2, rfl, .inr rfl, kD, kS, fun H5 m5 => ?_⟩
      refine ⟨.str "cart", .str "cart", 2, rfl, .inr rfl, .str _, sm _ (by decide +kernel) (by decide +kernel), fun H6 m6 => ?_⟩
      refine ⟨rfl, rfl, .str "cart", .str "cart", 1, rfl, .inl rfl, .str _, sm _ (by decide +kernel) (by decide +kernel), fun H7 m7 => ?_⟩
      refine ⟨.str "foot", .str "foot", 1, rfl, .inl rfl, .str _, sm _ (by decide +kernel) (by decide +kernel), fun H8 m8 => ?_⟩
      refine ⟨.str "foot", nameB "foot", rfl, .inl ⟨_, rfl, by decide, rfl⟩, by show 6 ≤ sizeLine; decide, fun g hg1 => ?_⟩
      refine ⟨_, rfl, by show 6 ≤ sizeLine; decide, fun g2 hg2 => ?_⟩
      have t1 := same_upd (o := .lst [.bl false, .bl false, .bl true, .bl false, .bl true, .bl true]) hg2
      refine ⟨.ref g, .ref g2, .list [.bool false, .bool (layB 2 d), .bool (layB 2 (.str "cart")), .bool (layB 1 (.str "cart")), .bool (layB 1 (.str "foot")), .bool (nameB "foot")], .list [.bool false, .bool false, .bool true, .bool false, .bool true, .bool true], rfl,
        .lst (SqL.of (t1 _ _ upd_same)) (.cons (.bl _) (.cons (.bl _) (.cons (.bl _) (.cons (.bl _) (.cons (.bl _) (.cons (.bl _) .nil)))))), .lst (SqL.of upd_same) (.cons (.bl _) (.cons (.bl _) (.cons (.bl _) (.cons (.bl _) (.cons (.bl _) (.cons (.bl _) .nil)))))), ?_, ?_, _, rfl, ?_⟩
      · exact ⟨by simp [VG.sm, VG.smAll], by simp [PyData.depth, PyData.depthAll], by simp [PyData.bulk, PyData.bulkAll]⟩
      · exact ⟨by simp [VG.sm, VG.smAll], by simp [PyData.depth, PyData.depthAll], by simp [PyData.bulk, PyData.bulkAll]⟩
      have eq : decide ((PyData.list [.bool false, .bool (layB 2 d), .bool (layB 2 (.str "cart")), .bool (layB 1 (.str "cart")), .bool (layB 1 (.str "foot")), .bool (nameB "foot")]).shown = (PyData.list [.bool false, .bool false, .bool true, .bool false, .bool true, .bool true]).shown) = true := by
        rw [kL, show layB 2 (.str "cart") = true by decide +kernel, show layB 1 (.str "cart") = false by decide +kernel, show layB 1 (.str "foot") = true by decide +kernel, show nameB "foot" = true by decide +kernel]
        exact decide_eq_true rfl
      rw [eq]
      refine iteT ?_
      refine ⟨by show 2 ≤ sizeLine; decide, fun g3 hg3 => ⟨by show 2 ≤ sizeLine; decide, fun g4 hg4 => ⟨by show 2 ≤ sizeLine; decide, fun g5 hg5 => ⟨by show 2 ≤ sizeLine; decide, fun g6 hg6 => ?_⟩⟩⟩⟩
      have t4 := same_upd (o := .tup [.str "foot", .str "cart"]) hg4
      have t5 := same_upd (o := .tup [.str "?1", .str "?2"]) hg5
      have t6 := same_upd (o := .lst [.ref g4, .ref g5]) hg6
      have two : ∀ H', DpAll K H' [.str "?1", .str "?2"] [.str "?1", .str "?2"] := fun _ => .cons (.str _) (.cons (.str _) .nil)
      refine ⟨.ref g3, .ref g6, .list [.tuple laysD, .tuple [.str "?1", .str "?2"]], .list [.tuple laysD, .tuple [.str "?1", .str "?2"]], rfl,
        .lst (SqL.of (t6 _ _ (t5 _ _ (t4 _ _ upd_same)))) (.cons (.tup (TL.them _) strs_two) (.cons (.tup (TW.them _) (two _)) .nil)),
        .lst (SqL.of upd_same) (.cons (.tup (SqT.of (t6 _ _ (t5 _ _ upd_same))) strs_two) (.cons (.tup (SqT.of (t6 _ _ upd_same)) (two _)) .nil)), ?_, ?_, ?_⟩
      · exact ⟨by decide +kernel, by decide +kernel, by decide +kernel⟩
      · exact ⟨by decide +kernel, by decide +kernel, by decide +kernel⟩
      rw [decide_eq_true rfl]
      exact k _
end
end Lw

set_option maxRecDepth 100000
set_option maxHeartbeats 0
namespace Lw
open PySem PySem.Spec PyProof.Rows L2 VG
abbrev R : PySem.W.OpenRow := PySem.W.OpenLaw.row PySem.Challenge.rw_missingmiles_k05_names_and_layers
def glb (x : Str) (st : Stmt) (dfl : List He.Dv) : He.DefD := ⟨(x, none), x, x, defArgs st, defBody st, defScope st, dfl, []⟩
def fns : List He.DefD := [glb "law" sLaw [], glb "_law_source" sSource [], glb "_law_draw" sDraw [], glb "_law_of" sOf [], glb "_law_same" sSame [], glb "is_name" sName [], glb "is_layer" sLayer [.int 2], glb "_are_letters" sLet []]
def fas : List He.Fa := [.glo "law", .glo "_law_source", .glo "_law_draw", .glo "_law_of", .glo "_law_same", .glo "is_name", .glo "is_layer", .glo "LAYERS", .glo "STRANGERS",
  .glo "_are_letters", .free "int", .free "len", .free "list", .free "repr", .free "isinstance", .free "str", .free "range"]
def more (K : PySem.W.Frag) : Bool := He.tupB K "LAYERS" [.str "foot", .str "cart"] && He.tupB K "STRANGERS" [.str "?1", .str "?2"]
abbrev hk : PySem.W.Hook := He.hookX 4 fas fns [] [] more
def ob (s : PySem.W.SharedT) : He.AlX := He.obsX 4 fas fns [] [] more (HandSHeadRun.getT s)
theorem ob_eq (s : PySem.W.SharedT) : ob s = hk.obs s.abs := He.obsX_eq (HandSHeadRun.getT_eq s)
def loose : List Str := ["LAYERS", "STRANGERS", "is_name", "is_layer", "_are_letters", "_law_source", "_law_draw", "_law_of", "_law_same"]
theorem run (w : World) : HandSHeadRun.RunEq R (PySem.W.view R.prog [11]) hk ob 600 loose w := by
  intro os
  kernel_rfl
theorem vals_rev : ∀ {xs : List V} {us : List Value}, Vals xs us → Vals xs.reverse us.reverse
  | _, _, .nil => .nil
  | _, _, .cons r t => by
    rw [List.reverse_cons, List.reverse_cons]
    exact (vals_rev t).append (.cons r .nil)
theorem facts {l : PySem.W.OpenLaw} {w : World} {K : PySem.W.Frag} {h : Heap} {mg : Str → Option Value} {f : Addr} (X : K.In h) (G : h.Ns mainGlobals mg) (hfa : mg ("law" : Str) = some (.ref f)) (c : He.SaysX fas fns [] [] more w h K) :
    LawG l w K CX0 3 63 "_law_script" mg f h := by
  have d := c.t.d
  obtain ⟨fdL, F⟩ := d.def_ 0 (d := glb "law" sLaw []) rfl
  obtain ⟨fdS, FS⟩ := d.def_ 1 (d := glb "_law_source" sSource []) rfl
  obtain ⟨fdD, FD⟩ := d.def_ 2 (d := glb "_law_draw" sDraw []) rfl
  obtain ⟨fdO, FO⟩ := d.def_ 3 (d := glb "_law_of" sOf []) rfl
  obtain ⟨fdE, FE⟩ := d.def_ 4 (d := glb "_law_same" sSame []) rfl
  obtain ⟨fdN, FN⟩ := d.def_ 5 (d := glb "is_name" sName []) rfl
  obtain ⟨fdY, FY⟩ := d.def_ 6 (d := glb "is_layer" sLayer [.int 2]) rfl
  obtain ⟨fdA, FA⟩ := d.def_ 7 (d := glb "_are_letters" sLet []) rfl
  have e := hfa.symm.trans (He.glo_ok X G (d.fact 0 (f := .glo "law") rfl))
  cases e
  obtain ⟨m1, m2⟩ := He.ba c.more
  have gl : ∀ {x : Str} (i : Nat), fas[i]? = some (.glo x) → mg x = some (.ref (He.ga K x)) := fun i hi => He.glo_ok X G (d.fact i hi)
  have fr : ∀ {x : Str} (i : Nat), fas[i]? = some (.free x) → mg x = none := fun i hi => He.free_ok X G (d.fact i hi)
  have bL := FunD.bindsA (ps := ["_law_script"]) F fun _ _ _ _ _ _ us hl => match us, hl with | [_], _ => rfl
  have bS := FunD.bindsN (ps := ["_law_script"]) FS fun _ _ _ _ _ _ us hl => match us, hl with | [_], _ => rfl
  have bD := FunD.bindsN (ps := ["_law_src", "_law_many"]) FD fun _ _ _ _ _ _ us hl => match us, hl with | [_, _], _ => rfl
  have bO := FunD.bindsN (ps := ["_law_src", "_law_some"]) FO fun _ _ _ _ _ _ us hl => match us, hl with | [_, _], _ => rfl
  have bE := FunD.bindsN (ps := ["_law_found", "_law_due"]) FE fun _ _ _ _ _ _ us hl => match us, hl with | [_, _], _ => rfl
  have bN := FunD.bindsN (ps := ["value"]) FN fun _ _ _ _ _ _ us hl => match us, hl with | [_], _ => rfl
  have bA := FunD.bindsN (ps := ["value", "most"]) FA fun _ _ _ _ _ _ us hl => match us, hl with | [_, _], _ => rfl
  have kN := kbindsN (ps := ["value"]) FN 0 ["value"] (fun _ ws => ws) (fun _ r => r) fun _ _ _ _ _ _ us ws h1 h2 => match us, ws, h1, h2 with | [], [_], _, _ => rfl
  obtain ⟨ds1, v1, bY1⟩ := FunD.binds1 (ps := ["value", "layers"]) FY 1 0 (by intro z; cases z) rfl fun T _ _ _ _ _ _ us its h1 h2 => match us, its, h1, h2 with | [_], [_], _, _ => ⟨_, rfl, rfl⟩
  obtain ⟨ds2, v2, bY2⟩ := FunD.binds1 (ps := ["value", "layers"]) FY 2 1 (by intro z; cases z) rfl fun T _ _ _ _ _ _ us its h1 h2 => match us, its, h1, h2 with | [_, _], [_], _, _ => ⟨_, rfl, rfl⟩
  cases v2
  obtain ⟨its, kY⟩ := kbindsD (ps := ["value", "layers"]) FY 0 ["layers", "value"] (fun _ _ ws => ws.reverse) (by intro z; cases z) (fun _ _ r => vals_rev r) fun T _ _ _ _ _ _ us its ws h1 h2 h3 => match us, its, ws, h1, h2, h3 with | [], [_], [_, _], _, _, _ => ⟨_, rfl, rfl⟩
  refine ⟨fdL, [], spLaw K, (fun p hp => by cases hp), (fun p hp => by cases hp), (fun p hp => by cases hp), fun s v => bL s [v] rfl, fun H a ns hl _ _ hS => ⟨a, ns, rfl, hS, hl, fun _ => rfl⟩, fun base _ _ _ => ?_⟩
  exact ok_law (fun_of F) ⟨fr 10 rfl, fr 11 rfl, fr 12 rfl, fr 13 rfl⟩ ⟨fr 14 rfl, fr 15 rfl, fr 11 rfl⟩ ⟨gl 7 rfl, fun H => He.tupB_ok m1 H⟩ ⟨fr 16 rfl, gl 8 rfl, fun H => He.tupB_ok m2 H⟩
    (fun_of FS) (gl 1 rfl) bS (fun_of FD) (gl 2 rfl) bD (fun_of FO) (gl 3 rfl) bO (fun_of FE) (gl 4 rfl) bE (fun_of FA) (gl 9 rfl) bA (fun_of FN) (gl 5 rfl) bN kN FY (gl 6 rfl) bY2 v1 bY1 kY
end Lw
open PySem PySem.W PySem.Calls PyProof.Rows
theorem PySem.Challenge.cw_missingmiles_k05_names_and_layers_holds : PySem.Challenge.rw_missingmiles_k05_names_and_layers.Holds := by
  w_on; o_law
  refine HandSHeadRun.head_any (r := OpenLaw.row PySem.Challenge.rw_missingmiles_k05_names_and_layers) (q := view (OpenLaw.row PySem.Challenge.rw_missingmiles_k05_names_and_layers).prog [11]) (H := Lw.hk) (ob := Lw.ob) (M := 600) (loose := Lw.loose)
    (d := HandSHeadRun.topDef (OpenLaw.row PySem.Challenge.rw_missingmiles_k05_names_and_layers).prog 11) (kwd := []) Lw.ob_eq (by kernel_rfl) (fun s => by kernel_rfl) Lw.run
    (by kernel_rfl) (by kernel_rfl) (by kernel_rfl) (by rfl) (by first | assumption | decide +kernel) (by decide +kernel) ⟨rfl, rfl, rfl, rfl, rfl, by decide +kernel⟩ ?hw ?hc
  case hw => w_witness2
  case hc =>
    refine VG.walkGE (l := PySem.Challenge.rw_missingmiles_k05_names_and_layers) (n := 63) (k := 3) (x := "_law_script") (CX := fun _ => L2.CX0) rfl (by decide) (by kernel_rfl) ⟨rfl, by decide, by decide⟩ ?F (fun _ _ _ _ _ z => z)
    intro w mg fa h Y G hmg0
    obtain ⟨K, KX, c⟩ := Y
    have e : (HandSHeadRun.topDef (OpenLaw.row PySem.Challenge.rw_missingmiles_k05_names_and_layers).prog 11).name = ("law" : PySem.Str) := by kernel_rfl
    rw [e] at hmg0
    exact ⟨K, KX, Lw.facts KX G hmg0 c⟩

