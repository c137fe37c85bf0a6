import PyProof.Rows.All
import Wide.All
import OpenK.AllK
import Wide.FinOn
import PyProof.ReprBulk
import HandS.Base
import HandS.Call
import HandS.List
import HandS.Ends
import HandS.Words
import HandS.Lambda
import HandS.EndBits
import HandS.EndTab
import HandS.Defaults
import HandS.Deep
import HandS.TupAny
import HandS.Exc
import HandS.ExcInit
import HandS.WordsExc
import HandS.TryOnly
import KE.KExcSuper
import KE.KExcMake
import HandS.ClsMeth
import KE.KTypeName
import KE.KTryMore
import HandS.HotCalls
import HandS.ExcField
import HandS.ForMost
import HandS.Walk
import HandS.IsInst
import HandS.Star
import HandS.HeadHook4
import HandS.SlotsOwn
import PyProof.InstNe
import OpenK.KOps
import HandS.Property
import HandS.Comp
import HandS.FStr
import KE.KOpsOwn
import HandS.HeadHook2
import HandS.Wide
import HandS.Codes
import HandS.StrMore
import PySem.Challenge.RW_missingmiles_k12_answers_told
import HandS.Gcd
import HandS.Zip
import KE.GoesZip
import KE.GoesMore
import KE.GoesEnum
import HandS.MakeKwOnly
import PyProof.MeetsIn
import HandS.Style
import HandS.Head0
import HandS.Head1
import HandS.Head2
import HandS.Head3
import HandS.HeadHook3
import KE.KUnpackStar
import HandS.More
set_option Elab.async false
set_option maxRecDepth 100000
/-! Data that is small enough to be shown; calls made where no repr is under way; the law's end for such calls. -/
namespace VG
open PySem PySem.Spec PyProof.Rows L2

/-! ### small data -/
mutual
def sm : PyData → Bool
  | .none => true
  | .bool _ => true
  | .int i => decide (i.natAbs < 10 ^ 90)
  | .str x => PyData.strOk x
  | .list xs => smAll xs
  | .tuple xs => smAll xs
  | .dict _ => false
def smAll : List PyData → Bool
  | [] => true
  | x :: xs => sm x && smAll xs
end
theorem pow90 : (10 : Nat) ^ 90 < 2 ^ 1900 := by decide +kernel
theorem log_of {n : Nat} (h : n < 10 ^ 90) : n.log2 < 1920 := by
  by_cases z : n = 0
  · subst z
    decide
  · have q : n.log2 < 1900 := (Nat.log2_lt z).mpr (Nat.lt_trans h pow90)
    exact Nat.lt_of_lt_of_le q (by decide)
theorem signs_small {x : Str} (h : PyData.strOk x = true) : ∀ c ∈ x.cps.toList, c < 16 ^ 8 := fun c hc => by
  have q := Array.all_eq_true_iff_forall_mem.mp h c (Array.mem_toList_iff.mp hc)
  have q2 : c < 1114112 := of_decide_eq_true q
  exact Nat.lt_trans q2 (by decide)
theorem int_len {i : Int} (h : i.natAbs < 10 ^ 90) : (PyData.int i).shown.length ≤ 100 := by
  rw [PyData.shown_int, _root_.PySem.ofString_length]
  exact Nat.le_trans (int_text_length_le10 (k := 90) (by decide) h) (by decide)
mutual
theorem sm_all : ∀ d : PyData, sm d = true → (d.showable = true ∧ d.hasDict = false) ∧ d.leavesShort 100 = true ∧ d.canLay0 = true
  | .none, _ => ⟨⟨rfl, rfl⟩, rfl, rfl⟩
  | .bool _, _ => ⟨⟨rfl, rfl⟩, rfl, rfl⟩
  | .int i, h => by
    have q : i.natAbs < 10 ^ 90 := of_decide_eq_true (by simpa only [sm] using h)
    exact ⟨⟨by simp only [PyData.showable]; exact decide_eq_true (log_of q), by simp only [PyData.hasDict]⟩, by simp only [PyData.leavesShort]; exact decide_eq_true (int_len q), by simp only [PyData.canLay0]⟩
  | .str x, h => by
    have q : PyData.strOk x = true := by simpa only [sm] using h
    refine ⟨⟨by simp only [PyData.showable], by simp only [PyData.hasDict]⟩, ?_, by simp only [PyData.canLay0]; exact q⟩
    simp only [PyData.leavesShort]
    exact List.all_eq_true.mpr fun c hc => decide_eq_true (signs_small q c hc)
  | .list xs, h => by
    obtain ⟨⟨a, b⟩, c, e⟩ := sm_alls xs (by simpa only [sm] using h)
    exact ⟨⟨by simp only [PyData.showable]; exact a, by simp only [PyData.hasDict]; exact b⟩, by simp only [PyData.leavesShort]; exact c, by simp only [PyData.canLay0]; exact e⟩
  | .tuple xs, h => by
    obtain ⟨⟨a, b⟩, c, e⟩ := sm_alls xs (by simpa only [sm] using h)
    exact ⟨⟨by simp only [PyData.showable]; exact a, by simp only [PyData.hasDict]; exact b⟩, by simp only [PyData.leavesShort]; exact c, by simp only [PyData.canLay0]; exact e⟩
  | .dict _, h => by simp [sm] at h
theorem sm_alls : ∀ xs : List PyData, smAll xs = true → (PyData.showableAll xs = true ∧ PyData.hasDictAll xs = false) ∧ PyData.leavesShortAll 100 xs = true ∧ PyData.canLayAll0 xs = true
  | [], _ => ⟨⟨rfl, rfl⟩, rfl, rfl⟩
  | x :: xs, h => by
    have h' : sm x = true ∧ smAll xs = true := by simpa only [smAll, Bool.and_eq_true] using h
    obtain ⟨⟨a, b⟩, c, e⟩ := sm_all x h'.1
    obtain ⟨⟨a', b'⟩, c', e'⟩ := sm_alls xs h'.2
    simp only [PyData.showableAll, PyData.hasDictAll, PyData.leavesShortAll, PyData.canLayAll0, a, b, c, e, a', b', c', e', Bool.and_self, Bool.or_self, and_self]
end
/-- d may be shown, and compared: its leaves are small, it is neither deep nor long -/
structure Sm (d : PyData) : Prop where
  sm : sm d = true
  dp : d.depth ≤ 40
  bk : d.bulk ≤ 100000
theorem Sm.fits {d : PyData} (h : Sm d) : d.shown.length ≤ sizeLine := by
  have q := PyData.shown_le_bulk 100 (by decide) d (sm_all d h.sm).2.1
  have b := h.bk
  have e : (100 + 2) * d.bulk ≤ 102 * 100000 := Nat.mul_le_mul (by decide) b
  rw [sizeLine_eq]
  omega
theorem Sm.shaped {d : PyData} (h : Sm d) : SeqAt.shaped d = true := by
  have e := (sm_all d h.sm).2.2
  have f : d.depth ≤ 64 := Nat.le_trans h.dp (by decide)
  show (d.canLay0 && decide (d.depth ≤ 64)) = true
  rw [e, decide_eq_true f]
  rfl

/-! ### repr of data, where no repr is under way -/
def rRepr (K : PySem.W.Frag) : List V → Hp → VK → Prop := fun xs H Q => ∃ x d, xs = [x] ∧ Dp K H x d ∧ Sm d ∧ Q (.str d.shown) H
section
variable {X : Cx}
theorem call_repr (hG : X.A.guards = some []) (hu : X.A.units + 64 < cLine) : CallR X (.builtin "repr") (rRepr X.K) := by
  intro pins s σ H xs us Q I r h
  obtain ⟨x, d, rfl, hd, hS, q⟩ := h
  obtain ⟨u, rfl, r1⟩ := vals1 r
  have fit := hS.fits
  obtain ⟨⟨hs, hn⟩, _, _⟩ := sm_all d hS.sm
  obtain ⟨as, rd⟩ := Dp.reads I d x u hd r1
  cases hd with
  | non =>
    cases r1
    refine PySem.P.repr_of_none ⟨.str _, H, I.tok _, ⟨_, rfl⟩, ?_⟩
    rw [PyData.shown_none] at q
    exact q
  | bl b =>
    cases r1
    refine PySem.P.repr_of_bool ⟨.str _, H, I.tok _, ⟨_, rfl⟩, ?_⟩
    rw [PyData.shown_bool] at q
    cases b <;> exact q
  | int i =>
    obtain ⟨t, rfl⟩ := r1
    have z : i.natAbs < 10 ^ 90 := of_decide_eq_true (by simpa only [VG.sm] using hS.sm)
    exact PySem.P.repr_of_int (log_of z) ⟨.str _, H, I.tok _, ⟨_, rfl⟩, by rw [PyData.shown_int] at q; exact q⟩
  | str y =>
    obtain ⟨t, rfl⟩ := r1
    rw [PyData.shown_str] at q fit
    exact PySem.P.repr_of_str ⟨.str _, H, I.tok _, ⟨_, rfl⟩, q⟩ fit
  | lst hl ha =>
    cases r1
    exact repr_of_reads' rd hs (PyData.noDict_hsm hn) hG (by have := hS.dp; omega) (fun _ _ e => e) (fun h' u tk hk => ⟨.str _, H, I.kept hk, ⟨_, rfl⟩, q⟩) fit
  | tup hl ha =>
    cases r1
    exact repr_of_reads' rd hs (PyData.noDict_hsm hn) hG (by have := hS.dp; omega) (fun _ _ e => e) (fun h' u tk hk => ⟨.str _, H, I.kept hk, ⟨_, rfl⟩, q⟩) fit
end

/-! ### defs that are called where no repr is under way -/
structure FnG (P : Program) (w : World) (K : PySem.W.Frag) (mg : Str → Option Value) (base : Heap) (CX : CXT) (k : Nat) (f : Addr) (fd : FuncData) (ps : List Str) (sp : Sp) : Prop where
  many : ∀ vs H Q E, sp vs H Q E → vs.length = ps.length
  runs : ∀ (A : Around) (outer : List Env) (s : Shared) (H : Hp) (args : Args) (us : List Value) (vs : List V) (Q : VK) (E : XK), A.guards = some [] → Room k A → Env0 P w K mg base A outer s H →
    BindsTo s fd args (ps.zip us) → Vals vs us → sp vs H Q E → codeAny (model P w) A (.call (.ref f) args) (CR CX outer P w H s Q E) s
section
variable {P : Program} {w : World} {K : PySem.W.Frag} {mg : Str → Option Value} {base : Heap}
theorem okG {x qual : Str} {st : Stmt} {f : Addr} {fd : FuncData} {N ps : List Str} {k : Nat} {sp : Sp} (F : Fun K x qual st f fd) (S : FnScope N ps (defScope st)) (many : ∀ vs H Q E, sp vs H Q E → vs.length = ps.length)
    (body : ∀ (cdv : Value) (A : Around) (outer : List Env) (s : Shared) (H : Hp) (vs : List V) (Q : VK) (E : XK), A.guards = some [] → Room k (A.deeper (envOfC qual (defScope st) s.heap.objs.size f cdv)) → sp vs H Q E →
      ∃ t, PSs (cxOf CX0 P w K mg base N qual (defScope st) f cdv A outer s H E).nox (defBody st) t ∧
        t { nx := fun _ H' => Q .non H', rt := Q } (L2.start N vs) H) : FnG P w K mg base CX0 (k + 1) f fd ps sp := by
  obtain ⟨oc, od, kV, doc, pm, an, cdv, ct, osl, rfl, lk, hcd⟩ := F.ex
  refine ⟨many, fun A outer s H args us vs Q E hG hr e0 hb r q => ?_⟩
  refine LamX.run_ofS lk hcd S hr e0 hb r (many _ _ _ _ q) fun hr' => ?_
  obtain ⟨t, h1, h2⟩ := body cdv A outer s H vs Q E hG hr' q
  exact ⟨t, h1.nox, h2⟩
end
section
variable {X : Cx} {CX : CXT} {k : Nat} {f : Addr} {fd : FuncData} {ps : List Str} {sp : Sp} {dvs : List V} {ds : List Value} {E : XK} {x : Str} {p pos : Pos} {e : Expr} {es : List Expr} {t : TA}
theorem pe_callG (F : FnG X.prog X.w X.K X.mg X.base CX k f fd ps sp) (hG : X.A.guards = some []) (hr : Room k X.A) (hg : Gl X x) (hm : X.mg x = some (.ref f)) (hk : PySem.W.keepIn X.K (.ref f) = true) (hb : Binds X.K fd ps ds) (hd : Vals dvs ds)
    (hx : Passes CX X E) (ha : PA X (e :: es) t) (n1 : (x == ("__debug__" : Str)) = false := by decide) (n2 : starEach (e :: es) X.env = (false, eval e X.env) :: starEach es X.env := by rfl)
    (n3 : (backTo pos (starEach es X.env)).any (·.1) = false := by rfl) : PE X (.Call (.Name x p) (e :: es) [] pos) (tCall sp dvs E t) := by
  refine ⟨fun pins s σ H Q I q0 => wpAny_Call_Name_kw (ld_glob I hg hm (PySem.W.callWith_K (h₀ := X.base) I.ok.mod.kin hk (thn (ha.run pos pins s σ H _ I q0) fun us s1 ⟨vs, H1, I1, r, q⟩ => ⟨I1.kIn, ?_⟩) n2 n3) n1)⟩
  have r2 : Vals (vs ++ dvs) (us ++ ds) := r.append hd
  have l2 : (us ++ ds).length = ps.length := r2.length.symm.trans (F.many _ _ _ _ q)
  refine wpAny_call (codeAny_mono (F.runs X.A X.stack s1 H1 ⟨us, []⟩ (us ++ ds) (vs ++ dvs) Q E hG hr I1.env0 (hb s1 us I1.kIn l2) r2 q) fun res s' z => ?_)
  match res, z with
  | .error err, z => exact hx pins σ H1 s1 err s' I1 z
  | .ok (.ret u), z => exact I1.after z
  | .ok .next, z => exact z.elim
  | .ok .brk, z => exact z.elim
  | .ok .cont, z => exact z.elim
end
end VG

set_option maxRecDepth 100000
/-! The law's end where the law's promise asks that no repr is under way. -/
namespace VG
open PySem PySem.Spec PyProof.Rows L2 LamX

def tabObj : Obj := { cls := .none, data := .fields #[] }
def scriptObj (vs : List Value) : Obj := { cls := .type "list", data := .seq vs.toArray }
/-- what is tracked where the law is called: the tables, and the script where sc says so -/
def laidAt (cs : List (Addr × Addr)) (a : Addr) (vs : List Value) (ns : List Int) (sc : Bool) : Hp := fun b =>
  if b ∈ cs.map (·.2) then some (.tbl #[]) else if sc = true ∧ b = a then some (.frz (scriptObj vs) (.lst (ns.map V.int))) else none
theorem laid_tab {cs : List (Addr × Addr)} {a : Addr} {vs : List Value} {ns : List Int} {sc : Bool} {b : Addr} (h : b ∈ cs.map (·.2)) : laidAt cs a vs ns sc b = some (.tbl #[]) := if_pos h
theorem laid_script {cs : List (Addr × Addr)} {a : Addr} {vs : List Value} {ns : List Int} (h : a ∉ cs.map (·.2)) : laidAt cs a vs ns true a = some (.frz (scriptObj vs) (.lst (ns.map V.int))) := by
  unfold laidAt
  rw [if_neg h, if_pos ⟨rfl, rfl⟩]
theorem laid_cases {cs : List (Addr × Addr)} {a : Addr} {vs : List Value} {ns : List Int} {sc : Bool} {b : Addr} {u : HO} (h : laidAt cs a vs ns sc b = some u) :
    (b ∈ cs.map (·.2) ∧ u = .tbl #[]) ∨ (sc = true ∧ b = a ∧ u = .frz (scriptObj vs) (.lst (ns.map V.int))) := by
  unfold laidAt at h
  by_cases h1 : b ∈ cs.map (·.2)
  · rw [if_pos h1] at h
    exact .inl ⟨h1, (Option.some.inj h).symm⟩
  · rw [if_neg h1] at h
    by_cases h2 : sc = true ∧ b = a
    · rw [if_pos h2] at h
      exact .inr ⟨h2.1, h2.2, (Option.some.inj h).symm⟩
    · rw [if_neg h2] at h
      cases h

theorem law_runG {P : Program} {w : World} {K : PySem.W.Frag} {mg mb : Str → Option Value} {CX : CXT} {k : Nat} {fa a : Addr} {cs : List (Addr × Addr)} {fd : FuncData} {x : Str} {sp : Sp} {s₁ : Shared} {vs : List Value} {ns : List Int}
    (KX : K.In s₁.heap) (hns : s₁.heap.Ns mainGlobals mg) (hb : s₁.heap.Ns builtinsNs mb) (hbb : ∀ x : Str, x ≠ "__name__" → mb x = bootBuiltins x) (hlim : s₁.heap.NoLimit)
    (hgen : s₁.gens = #[]) (hT : ∀ p ∈ cs, s₁.heap.get? p.2 = some tabObj) (nT : ∀ p ∈ cs, K.lookup p.2 = none) (C : ∀ p ∈ cs, PySem.W.CodeHd s₁.heap p.1 p.2)
    (hbm : ∃ (bm : Addr) (ob : Obj), mg "__builtins__" = some (.ref bm) ∧ bm ≠ builtinsNs ∧
      s₁.heap.get? bm = some ob ∧ ob.cls = .type "module" ∧ ob.dict = some builtinsNs ∧ ob.data = .plain)
    (ha : s₁.heap.get? a = some (scriptObj vs)) (hi : IntsAre vs ns) (hl : ns.length ≤ sizeLine) (hr : Room k callerA)
    (F : ∀ base : Heap, K.In base → base.Ns mainGlobals mg → (∀ p ∈ cs, TabB base mg p.1 p.2) → FnG P w K mg base CX k fa fd [x] sp)
    (bind1 : ∀ (s : Shared) (u : Value), BindsTo s fd ⟨[u], []⟩ [(x, u)])
    (kept : ∀ H : Hp, (∀ p ∈ cs, H p.2 = some (.tbl #[])) → SqL K H a (ns.map V.int) → sp [.ref a] H (fun v _ => v = .bl true) fun _ _ _ => False)
    (noX : ∀ H e s', CX [] H s₁ (fun _ _ _ => False) e s' → False) :
    codeAny (model P w) callerA (.call (.ref fa) ⟨[.ref a], []⟩)
      (fun r s' => r = .ok (.ret (.bool true)) ∧ OldK s₁.heap s'.heap ∧ s'.os = s₁.os ∧ AllBare s'.gens) s₁ := by
  have rv : Vals (ns.map V.int) vs := vals_ints hi
  have tabOf : ∀ b, b ∈ cs.map (·.2) → ∃ p ∈ cs, p.2 = b := fun b z => List.mem_map.mp z
  have inTab : ∀ p ∈ cs, p.2 ∈ cs.map (·.2) := fun p hp => List.mem_map.mpr ⟨p, hp, rfl⟩
  have atTab : ∀ b, b ∈ cs.map (·.2) → s₁.heap.get? b = some tabObj := fun b z => by
    obtain ⟨p, hp, rfl⟩ := tabOf b z
    exact hT p hp
  have aNo : a ∉ cs.map (·.2) := fun z => by
    have q := ha.symm.trans (atTab a z)
    have q2 : Data.seq vs.toArray _ = Data.fields #[] := congrArg Obj.data (Option.some.inj q)
    cases q2
  -- sc: is the script tracked (else it is one of the module's own objects)
  obtain ⟨sc, hsc, hseq⟩ : ∃ sc : Bool, (sc = true → K.lookup a = none) ∧ SqL K (laidAt cs a vs ns sc) a (ns.map V.int) := by
    cases hk : K.lookup a with
    | none => exact ⟨true, fun _ => rfl, .inl (.inr ⟨_, laid_script aNo⟩)⟩
    | some o =>
      have q := ha.symm.trans (KX a o hk)
      cases q
      refine ⟨false, fun z => (nomatch z), .inr ⟨_, vs.toArray, _, hk, rfl, rfl, rfl, ?_, by simpa using rv⟩⟩
      rw [List.size_toArray]
      exact hi.length ▸ hl
  generalize hH : laidAt cs a vs ns sc = H at hseq
  have tabH : ∀ p ∈ cs, H p.2 = some (.tbl #[]) := fun p hp => by
    rw [← hH]
    exact laid_tab (inTab p hp)
  have casesH : ∀ {b u}, H b = some u → (b ∈ cs.map (·.2) ∧ u = .tbl #[]) ∨ (sc = true ∧ b = a ∧ u = .frz (scriptObj vs) (.lst (ns.map V.int))) := fun {b u} q => by
    rw [← hH] at q
    exact laid_cases q
  have hok : HOk P w H s₁.heap := fun b u q => by
    rcases casesH q with ⟨z, rfl⟩ | ⟨_, rfl, rfl⟩
    · exact atTab b z
    · exact ⟨ha, by rw [List.length_map]; exact hl, vs, _, rv, ha⟩
  -- an object of another data is not tracked
  have other : ∀ {b : Addr} {o : Obj}, s₁.heap.get? b = some o → o.data ≠ tabObj.data → o.data ≠ (scriptObj vs).data → H b = none := fun {b o} e n1 n2 => by
    cases q : H b with
    | none => rfl
    | some u =>
      rcases casesH q with ⟨z, _⟩ | ⟨_, z, _⟩
      · exact (n1 (congrArg Obj.data (Option.some.inj (e.symm.trans (atTab b z))))).elim
      · exact (n2 (congrArg Obj.data (Option.some.inj (e.symm.trans (z ▸ ha))))).elim
  have keeps : ∀ {b : Addr} {o : Obj}, s₁.heap.get? b = some o → o.data ≠ tabObj.data → o.data ≠ (scriptObj vs).data → (hidT s₁.heap H).get? b = some o := fun e n1 n2 => hidT_get e (other e n1 n2)
  have nsK : ∀ {b : Addr} {m : Str → Option Value}, s₁.heap.Ns b m → (hidT s₁.heap H).Ns b m := fun ⟨o, es, ep, e, d, r⟩ =>
    ⟨o, es, ep, keeps e (fun z => by rw [d] at z; cases z) (fun z => by rw [d] at z; cases z), d, r⟩
  have hKb : K.In (hidT s₁.heap H) := fun b o e => hidT_get (KX b o e) (by
    cases q : H b with
    | none => rfl
    | some u =>
      rcases casesH q with ⟨z, _⟩ | ⟨z1, z, _⟩
      · obtain ⟨p, hp, rfl⟩ := tabOf b z
        rw [nT p hp] at e
        cases e
      · rw [z, hsc z1] at e
        cases e)
  have hM : L2.Mod K mg (hidT s₁.heap H) := ⟨hKb, nsK hns, ⟨mb, nsK hb, hbb⟩, let ⟨mc, h1, h2⟩ := hlim; ⟨mc, nsK h1, h2⟩⟩
  have TB : ∀ p ∈ cs, TabB (hidT s₁.heap H) mg p.1 p.2 := fun p hp => by
    refine ⟨?_, ?_, fun z => ?_⟩
    · obtain ⟨o, us, file, tf, flags, tg, inF, text, tt, e1, r1, r2, r3, r4, r5, r6, r7, r8, hne⟩ := C p hp
      refine ⟨o, us, file, tf, flags, tg, inF, text, tt, keeps e1 (fun z => ?_) (fun z => ?_), r1, r2, r3, r4, r5, r6, r7, r8, hne⟩
      · have z2 := r2.symm.trans z
        cases z2
        simp at r3
      · have z2 := r2.symm.trans z
        cases z2
    · obtain ⟨bm, ob, b1, b2, b3, b4, b5, b6⟩ := hbm
      refine ⟨bm, ob, b1, b2, fun q => ?_, fun q => ?_, keeps b3 (fun z => ?_) (fun z => ?_), b4, b5, b6⟩
      · obtain ⟨o, es, ep, e, hd, _⟩ := hns
        have z := Option.some.inj ((q ▸ b3).symm.trans e)
        rw [← z, b6] at hd
        cases hd
      · have z := Option.some.inj ((q ▸ b3).symm.trans (hT p hp))
        rw [z] at b6
        cases b6
      · have z2 := b6.symm.trans z
        cases z2
      · have z2 := b6.symm.trans z
        cases z2
    · obtain ⟨o, es, ep, e, hd, _⟩ := hns
      have z2 := Option.some.inj ((z ▸ e).symm.trans (hT p hp))
      rw [z2] at hd
      cases hd
  have e0 : Env0 P w K mg (hidT s₁.heap H) callerA [] s₁ H :=
    ⟨rfl, hM, fun b o e => of_hidT e, Nat.le_of_eq (hidT_size _ _), trivial, fun b z => absurd (show b ∈ ([] : List Addr) from z) (by simp), hok, .of_eq hgen⟩
  refine codeAny_mono ((F _ hKb (nsK hns) TB).runs callerA [] s₁ H ⟨[.ref a], []⟩ [.ref a] [.ref a] _ _ rfl hr e0 (bind1 s₁ (.ref a)) (.cons rfl .nil) (kept H tabH hseq)) fun r s' z => ?_
  match r, z with
  | .error e, z => exact (noX H e s' z).elim
  | .ok .next, z => exact z.elim
  | .ok .brk, z => exact z.elim
  | .ok .cont, z => exact z.elim
  | .ok (.ret u), z =>
    obtain ⟨v, H', os, bare, un, hok', r', q⟩ := z
    have q1 : v = .bl true := q
    subst q1
    obtain rfl : u = Value.bool true := r'
    -- all but the tables is as it was
    have old : ∀ b o, b ∉ cs.map (·.2) → s₁.heap.get? b = some o → s'.heap.get? b = some o := fun b o nb e => by
      cases q : H b with
      | none => exact un.keep b o e q (fun z => absurd (show b ∈ ([] : List Addr) from z) (by simp)) (by simp)
      | some u =>
        rcases casesH q with ⟨z, _⟩ | ⟨_, rfl, rfl⟩
        · exact absurd z nb
        · obtain ⟨e2, _⟩ := hok' b _ (un.frzs b _ _ q)
          rw [ha] at e
          rw [← e]
          exact e2
    have grew : ∀ p ∈ cs, ∃ more : Array Value, s'.heap.get? p.2 = some { cls := .none, data := .fields more } := fun p hp => by
      obtain ⟨more, z⟩ := un.tbls p.2 #[] (tabH p hp)
      exact ⟨_, hok' p.2 _ z⟩
    refine ⟨rfl, ⟨fun b o e => ?_, fun b o e => ?_⟩, os, bare⟩
    · by_cases z : b ∈ cs.map (·.2)
      · obtain ⟨p, hp, rfl⟩ := tabOf b z
        obtain ⟨more, hm⟩ := grew p hp
        have e2 := Option.some.inj (e.symm.trans (hT p hp))
        rw [e2]
        exact .inr (.inl ⟨((C p hp).tab (hT p hp)).isCodeTable, rfl, #[], more, rfl, by rw [Array.empty_append]; exact hm⟩)
      · exact .inl (old b o z e)
    · by_cases z : b ∈ cs.map (·.2)
      · obtain ⟨p, hp, rfl⟩ := tabOf b z
        obtain ⟨more, hm⟩ := grew p hp
        exact ⟨_, hm⟩
      · exact ⟨o, old b o z e⟩

/-- what is known of the law's promise at the head's heap h -/
def LawG (l : PySem.W.OpenLaw) (w : World) (K : PySem.W.Frag) (CX : CXT) (k n : Nat) (x : Str) (mg : Str → Option Value) (fa : Addr) (h : Heap) : Prop :=
  ∃ (fd : FuncData) (cs : List (Addr × Addr)) (sp : Sp), (∀ p ∈ cs, h.get? p.2 = some tabObj) ∧ (∀ p ∈ cs, K.lookup p.2 = none) ∧ (∀ p ∈ cs, PySem.W.CodeHd h p.1 p.2) ∧
    (∀ (s : Shared) (u : Value), BindsTo s fd ⟨[u], []⟩ [(x, u)]) ∧
    (∀ (H : Hp) (a : Addr) (ns : List Int), ns.length ≤ n → (∀ z ∈ ns, Builtin.Int.intBits z ≤ 1048576) → (∀ p ∈ cs, H p.2 = some (.tbl #[])) → SqL K H a (ns.map V.int) →
      sp [.ref a] H (fun v _ => v = .bl true) fun _ _ _ => False) ∧
    ∀ base : Heap, K.In base → base.Ns mainGlobals mg → (∀ p ∈ cs, TabB base mg p.1 p.2) → FnG l.prog w K mg base CX k fa fd [x] sp
theorem walkG {l : PySem.W.OpenLaw} {n k : Nat} {q : Program} {loose : List Str} {XP : (Str → Option Value) → Heap → Prop} {YP : World → Heap → Prop} {d : DefRec} {K : Params → PySem.W.Frag} {CX : World → CXT} {x : Str}
    (hn : l.most = some n) (hn2 : n ≤ sizeLine) (hdf : d.params.defaults = []) (hr : Room k callerA)
    (hY : ∀ (w : World) (h : Heap), YP w h → (K w.params).In h)
    (F : ∀ (w : World) (mg : Str → Option Value) (fa : Addr) (h : Heap), YP w h → (K w.params).In h → h.Ns mainGlobals mg → mg d.name = some (.ref fa) →
      LawG l w (K w.params) (CX w) k n x mg fa h)
    (noX : ∀ (w : World) (H : Hp) (s : Shared) (e : Value) (s' : Shared), CX w [] H s (fun _ _ _ => False) e s' → False) :
    PySem.W.WalkO q loose XP YP l.row.toRowW d [] (fun f vs => PySem.call f vs) :=
  Att.attach_callB hn hdf fun w s₀ s₁ mg mb fa o pm cd doc a vs ns G Y ho hd hcd hmg hobj hints hlen hbits hg => by
    obtain ⟨fd, cs, sp, hT, nT, C, hb, hsp, hF⟩ := F w mg fa _ Y (hY w _ Y) G.T.g hmg
    exact law_runG (hY w _ Y) G.T.g G.T.b G.T.builtins G.T.nolimit hg hT nT C G.T.bmain hobj hints (Nat.le_trans hlen hn2) hr hF hb (fun H hH hS => hsp H a ns hlen hbits hH hS) fun H e s' => noX w H s₁ e s'
theorem walkGE {l : PySem.W.OpenLaw} {n k : Nat} {q : Program} {loose : List Str} {XP : (Str → Option Value) → Heap → Prop} {YP : World → Heap → Prop} {d : DefRec} {CX : World → CXT} {x : Str}
    (hn : l.most = some n) (hn2 : n ≤ sizeLine) (hdf : d.params.defaults = []) (hr : Room k callerA)
    (F : ∀ (w : World) (mg : Str → Option Value) (fa : Addr) (h : Heap), YP w h → h.Ns mainGlobals mg → mg d.name = some (.ref fa) →
      ∃ K : PySem.W.Frag, K.In h ∧ LawG l w K (CX w) k n x mg fa h)
    (noX : ∀ (w : World) (H : Hp) (s : Shared) (e : Value) (s' : Shared), CX w [] H s (fun _ _ _ => False) e s' → False) :
    PySem.W.WalkO q loose XP YP l.row.toRowW d [] (fun f vs => PySem.call f vs) :=
  Att.attach_callB hn hdf fun w s₀ s₁ mg mb fa o pm cd doc a vs ns G Y ho hd hcd hmg hobj hints hlen hbits hg => by
    obtain ⟨K, KX, fd, cs, sp, hT, nT, C, hb, hsp, hF⟩ := F w mg fa _ Y G.T.g hmg
    exact law_runG KX G.T.g G.T.b G.T.builtins G.T.nolimit hg hT nT C G.T.bmain hobj hints (Nat.le_trans hlen hn2) hr hF hb (fun H hH hS => hsp H a ns hlen hbits hH hS) fun H e s' => noX w H s₁ e s'
end VG

set_option maxRecDepth 100000
/-! Calls by keywords alone; x in a tuple of data; data in a heap that has grown. -/
namespace VG
open PySem PySem.Spec PyProof.Rows L2
section
variable {X : Cx} {CX : CXT} {k : Nat} {f : Addr} {fd : FuncData} {ps ks : List Str} {sp : Sp} {E : XK} {x : Str} {p pos : Pos} {kws : List Keyword} {tk : TA} {g : List Value → List Value → List Value} {gV : List V → List V → List V}
/-- f(k = v, ..) -/
theorem pe_callN0 (F : FnOk X.prog X.w X.K X.mg X.base CX k f fd ps sp) (hr : Room k X.A) (hg : Gl X x) (hm : X.mg x = some (.ref f)) (hk : PySem.W.keepIn X.K (.ref f) = true) (hb : KBn X.K fd ps 0 ks g gV)
    (hx : Passes CX X E) (hkw : PK X kws tk) (n1 : (backToKw pos (keywordEach kws X.env)).all (·.1.isSome) = true := by rfl) (n2 : (backToKw pos (keywordEach kws X.env)).filterMap (·.1) = ks := by rfl)
    (n3 : (x == ("__debug__" : Str)) = false := by decide) (n4 : ((backTo pos (starEach [] X.env)).any (·.1) || (backToKw pos (keywordEach kws X.env)).any (·.1.isNone)) = false := by rfl) :
    PE X (.Call (.Name x p) [] kws pos) (tCallN 0 ks.length sp gV E tNil tk) :=
  ⟨fun pins s σ H Q I h => wpAny_Call_Name_kw (ld_glob I hg hm (PySem.W.callWith_KW0 (h₀ := X.base) I.ok.mod.kin hk n1 (thn (hkw.run pos pins s σ H _ I h) fun ws s2 ⟨zs, H2, I2, rz, l1, l2, q2⟩ =>
    ⟨I2.kIn, by rw [n2]; exact run_fnN (us := []) (vs := []) F hr hb hx I2 .nil rz l1 l2 q2⟩) n4) n3)⟩
end
/-! ### how keywords bind -/
section
variable {K : PySem.W.Frag} {x qual : Str} {params : Arguments} {body : List Stmt} {scope : Scope} {dvs : List V} {kws : List (Str × V)} {f : Addr} {fd : FuncData} {ps : List Str}
/-- some defaults, no keyword-only ones -/
theorem kbindsD (F : FunD K x qual params body scope dvs kws f fd) (n : Nat) (ks : List Str) (g : {α : Type} → List α → List α → List α → List α) (hd : dvs ≠ [])
    (hrel : ∀ {vs ds zs : List V} {us its ws : List Value}, Vals vs us → Vals ds its → Vals zs ws → Vals (g vs ds zs) (g us its ws))
    (h : ∀ (T : Addr) (kV doc pm : Value) (an : Option Addr) (cdv ct : Value) (us its ws : List Value), us.length = n → its.length = dvs.length → ws.length = ks.length →
      ∃ k, bindArgs (PySem.W.fnOf x qual params body scope (.ref T) kV doc pm an cdv ct) ⟨us, ks.zip ws⟩ = seqItems? (.ref T) >>= k ∧ k (some its.toArray) = pure (ps.zip (g us its ws))) :
    ∃ its : List Value, KBn K fd ps n ks (fun us ws => g us its ws) (fun vs zs => g vs dvs zs) := by
  obtain ⟨oc, od, dV, kV, doc, pm, an, cdv, ct, osl, rfl, lk, hcd, hD, hK⟩ := F.ex
  rcases hD with ⟨e, _⟩ | ⟨_, T, o, its, m, rfl, lT, oT, rT⟩
  · exact absurd e hd
  · refine ⟨its, fun s us ws X l1 l2 => BindsTo.of_looks fun M => ?_, fun r1 r2 => hrel r1 rT r2⟩
    obtain ⟨k, e1, e2⟩ := h T kV doc pm an cdv ct us its ws l1 rT.length.symm l2
    rw [e1]
    exact looks_items X lT oT (.of_pure e2)
/-- no defaults at all -/
theorem kbindsN (F : FunD K x qual params body scope [] kws f fd) (n : Nat) (ks : List Str) (g : {α : Type} → List α → List α → List α)
    (hrel : ∀ {vs zs : List V} {us ws : List Value}, Vals vs us → Vals zs ws → Vals (g vs zs) (g us ws))
    (h : ∀ (kV doc pm : Value) (an : Option Addr) (cdv ct : Value) (us ws : List Value), us.length = n → ws.length = ks.length →
      bindArgs (PySem.W.fnOf x qual params body scope .none kV doc pm an cdv ct) ⟨us, ks.zip ws⟩ = pure (ps.zip (g us ws))) : KBn K fd ps n ks (fun us ws => g us ws) (fun vs zs => g vs zs) := by
  obtain ⟨oc, od, dV, kV, doc, pm, an, cdv, ct, osl, rfl, lk, hcd, hD, hK⟩ := F.ex
  rcases hD with ⟨_, rfl⟩ | ⟨e, _⟩
  · exact ⟨fun s us ws _ l1 l2 => .of_eq (h kV doc pm an cdv ct us ws l1 l2), fun r1 r2 => hrel r1 r2⟩
  · exact absurd rfl e
theorem fun_of {st : Stmt} {f : Addr} {fd : FuncData} {kws : List (Str × V)} (F : FunD K x qual (defArgs st) (defBody st) (defScope st) [] kws f fd) : Fun K x qual st f fd := by
  obtain ⟨oc, od, dV, kV, doc, pm, an, cdv, ct, osl, e, lk, hcd, hD, hK⟩ := F.ex
  rcases hD with ⟨_, rfl⟩ | ⟨e, _⟩
  · exact ⟨⟨oc, od, kV, doc, pm, an, cdv, ct, osl, e, lk, hcd⟩, F.kp⟩
  · exact absurd rfl e
end
section
variable {X : Cx}
def rInT (K : PySem.W.Frag) (neg : Bool) : R2 := fun x y H Q => ∃ d ds, Dp K H x d ∧ Dp K H y (.tuple ds) ∧ SeqAt.shaped d = true ∧ SeqAt.shaped (.tuple ds) = true ∧
  Q (.bl (if neg then !ds.any fun z => PyData.eqv z d else ds.any fun z => PyData.eqv z d)) H
theorem room_inT {A : Around} {d : PyData} {xs : List PyData} (h : SeqAt.shaped d = true) (hu : A.units + 65 < cLine) : A.units + 1 + min (PyData.depthAll xs) d.depth < cLine := by
  have z := SeqAt.depth_of_shaped h
  have := Nat.min_le_right (PyData.depthAll xs) d.depth
  omega
theorem op_inT (hu : X.A.units + 65 < cLine) : OpR X (compareOp .In) (rInT X.K false) := by
  rintro pins s σ H x y v u Q I rx ry ⟨d, ds, hd, he, sd, se, q⟩
  obtain ⟨as, r1⟩ := Dp.reads I d x v hd rx
  obtain ⟨bs, r2⟩ := Dp.reads I (.tuple ds) y u he ry
  exact SeqAt.in_tuple_reads r2 r1 (SeqAt.canLay_of_shaped se) (SeqAt.canLay_of_shaped sd) (room_inT sd hu) ⟨.bl _, H, I, rfl, q⟩
theorem op_notInT (hu : X.A.units + 65 < cLine) : OpR X (compareOp .NotIn) (rInT X.K true) := by
  rintro pins s σ H x y v u Q I rx ry ⟨d, ds, hd, he, sd, se, q⟩
  obtain ⟨as, r1⟩ := Dp.reads I d x v hd rx
  obtain ⟨bs, r2⟩ := Dp.reads I (.tuple ds) y u he ry
  exact SeqAt.notIn_tuple_reads r2 r1 (SeqAt.canLay_of_shaped se) (SeqAt.canLay_of_shaped sd) (room_inT sd hu) ⟨.bl _, H, I, rfl, q⟩
end
theorem Same.tup {K : PySem.W.Frag} {H H' : Hp} {a : Addr} {xs : List V} (e : Same H H') (h : SqT K H a xs) : SqT K H' a xs := by
  rcases h with (h | ⟨o, h⟩) | h
  · exact .inl (.inl (e _ _ h))
  · exact .inl (.inr ⟨o, e _ _ h⟩)
  · exact .inr h
mutual
theorem Dp.same {K : PySem.W.Frag} {H H' : Hp} (e : Same H H') : ∀ (d : PyData) (v : V), Dp K H v d → Dp K H' v d
  | .none, _, h => by cases h; exact .non
  | .bool b, _, h => by cases h; exact .bl b
  | .int i, _, h => by cases h; exact .int i
  | .str x, _, h => by cases h; exact .str x
  | .list ds, _, h => by
    cases h with
    | lst a b => exact .lst (e.seq a) (DpAll.same e ds _ b)
  | .tuple ds, _, h => by
    cases h with
    | tup a b => exact .tup (Same.tup e a) (DpAll.same e ds _ b)
  | .dict _, _, h => by cases h
theorem DpAll.same {K : PySem.W.Frag} {H H' : Hp} (e : Same H H') : ∀ (ds : List PyData) (vs : List V), DpAll K H vs ds → DpAll K H' vs ds
  | [], _, h => by cases h; exact .nil
  | d :: ds, _, h => by
    cases h with
    | cons a b => exact .cons (Dp.same e d _ a) (DpAll.same e ds _ b)
end
end VG

set_option maxRecDepth 100000
/-! Own exceptions whose __init__ begins with super().__init__('..'). -/
namespace VG
open PySem PySem.Spec PyProof.Rows L2
open PySem.W (ksFn ksEnv)

/-! ### the wrapper that super().__init__ is, called -/
section
variable {prog : Program} {w : World} {A : Around} {E : Value → Shared → Prop} {h : Heap} {g : Array GenState} {d : Drawn} {t : Nat} {os : OsState} {nm q : Str} {C N : Addr} {bs bm : List Value} {hdct : Bool} {sn : List Str} {sub : List Value} {ab : Bool} {col : Option Bool} {dd : Option Addr}
  {k0 k1 k2 k3 k5 : Option Value} {B i newId : String} {bmB : List Value}
theorem call_mw (FB : ExcBaseFacts B newId i bmB) {u e t0 : Addr} {rest : List Value} {Q : Value → Shared → Prop} (hC : h.get? C = some (excClassObj nm q C N bs bm hdct sn sub ab col dd k0 k1 k2 k3 k5 newId)) (he : h.get? e = some (PySem.HandSPX.excO C t0))
    (hu : h.get? u = some (PySem.W.kxs_mw i e)) (hz : rest.length ≤ sizeLine)
    (hq : ∀ h' t1, (∀ b o, b ≠ e → h.get? b = some o → h'.get? b = some o) → h'.get? e = some (PySem.HandSPX.excO C t1) → Q .none ⟨h', g, d, t, os⟩) : wpAny (model prog w) A (call (.ref u) rest) Q E ⟨h, g, d, t, os⟩ := by
  refine wpAny_call (codeAny_of_tree ?_)
  show wpAny _ A.in1 (callAny (.ref u) ⟨rest, []⟩) _ _ _
  simp only [callAny]
  refine wpAny_bind (wpAny_load hu ?_)
  simp only [PySem.W.kxs_mw, show (Value.type "method-wrapper" == Value.type "method" || Value.type "method-wrapper" == Value.type "builtin_function_or_method" || Value.type "method-wrapper" == Value.type "method-wrapper") = true by decide, if_true]
  refine PySem.W.KFB.if_so (by decide) (wpAny_bind (PySem.W.check_bound_init FB.toExcCallFacts hC he rfl (wpAny_bind (wpAny_pure (wpAny_pure ⟨PySem.plainId_quiet FB.init.plain _, codeAny_builtin FB.initEntry ?_⟩)))))
  exact PySem.W.exc_init_tree (cls := .ref C) (t0 := t0) (dv := none) (c2 := .none) (c3 := .none) (b4 := .bool false) he hz fun h' k1 k2 _ => hq h' _ k1 k2
end

/-! ### the frame of such an __init__ -/
/-- no name of its own but the parameters; what it captures is its class alone -/
structure IniScope (ps : List Str) (sc : Scope) : Prop where
  kind : sc.kind = .function
  co : sc.isCoroutine = false
  gen : sc.isGenerator = false
  nd : ps.Nodup
  par : ∀ x ∈ ps, sc.names.lookup x = some .local
  noc : ∀ y ∈ sc.names, y.2 ≠ .cell
  fre : ∀ y ∈ sc.names, y.2 = .free → y.1 = "__class__"
  sup : sc.names.lookup ("super" : Str) = some .globalImplicit
  cls : sc.names.lookup ("__class__" : Str) = some .free
def iniCx (P : Program) (w : World) (K : PySem.W.Frag) (mg : Str → Option Value) (base : Heap) (ps : List Str) (qual : Str) (sc : Scope) (f cda cc : Addr) (A : Around) (outer : List Env) (s : Shared) (H : Hp) : Cx where
  prog := P
  w := w
  K := K
  mg := mg
  base := base
  A := A.deeper (ksEnv qual sc s.heap.objs.size f (.ref cda) cc)
  N := ps
  s_0 := s
  H_0 := H
  env := ksEnv qual sc s.heap.objs.size f (.ref cda) cc
  outer := outer
  stack := ksEnv qual sc s.heap.objs.size f (.ref cda) cc :: outer
  ex := []
  fn := fun _ => false
  calm := true
  pn := []
  xe := fun _ _ => False
theorem lookup_of_mem {x : Str} {u : Value} : ∀ {l : List (Str × Value)}, (l.map (·.1)).Nodup → (x, u) ∈ l → l.lookup x = some u
  | [], _, h => by cases h
  | (y, v) :: r, nd, h => by
    have nd' := List.nodup_cons.mp nd
    rcases List.mem_cons.mp h with e | h2
    · cases e
      simp [List.lookup]
    · have ne : (x == y) = false := by
        refine beq_eq_false_iff_ne.mpr fun z => nd'.1 ?_
        rw [← z]
        exact List.mem_map.mpr ⟨_, h2, rfl⟩
      rw [List.lookup_cons, ne]
      exact lookup_of_mem nd'.2 h2
theorem zip_keys : ∀ {ps : List Str} {us : List Value}, us.length = ps.length → (ps.zip us).map (·.1) = ps
  | [], [], _ => rfl
  | p :: ps, u :: us, h => by
    show p :: (ps.zip us).map (·.1) = p :: ps
    rw [zip_keys (by simpa using h)]
  | [], _ :: _, h => by cases h
  | _ :: _, [], h => by cases h
theorem zip_mem : ∀ {ps : List Str} {us : List Value} {i : Nat} {x : Str} {u : Value}, ps[i]? = some x → us[i]? = some u → (x, u) ∈ ps.zip us
  | [], _, _, _, _, h, _ => by simp at h
  | _ :: _, [], _, _, _, _, h => by simp at h
  | p :: ps, v :: us, 0, x, u, h1, h2 => by
    simp at h1 h2
    subst h1 h2
    exact List.mem_cons_self
  | p :: ps, v :: us, i + 1, x, u, h1, h2 => List.mem_cons_of_mem _ (zip_mem (i := i) (by simpa using h1) (by simpa using h2))
theorem cell_one {x : Str} {cc c : Addr} (h : ([("__class__", cc)] : List (Str × Addr)).lookup x = some c) : x = "__class__" ∧ c = cc := by
  rw [List.lookup_cons] at h
  cases e : (x == ("__class__" : Str)) with
  | true =>
    rw [e] at h
    exact ⟨beq_iff_eq.mp e, (Option.some.inj h).symm⟩
  | false =>
    rw [e] at h
    cases h
theorem ini_start {P : Program} {w : World} {K : PySem.W.Frag} {mg : Str → Option Value} {base : Heap} {ps : List Str} {qual : Str} {sc : Scope} {f cda cc : Addr} {A : Around} {outer : List Env} {s : Shared} {H : Hp} {us : List Value} {vs : List V} {h₁ : Heap} {tk : Nat} {oc : Obj} {v0 : Option Value}
    (S : IniScope ps sc) (hd : A.handled = none) (e0 : Env0 P w K mg base A outer s H) (hl : us.length = ps.length) (r : Vals vs us) (lc : K.lookup cc = some oc) (dc : oc.data = .cell v0)
    (hns : h₁.Ns s.heap.objs.size fun y => (ps.zip us).reverse.lookup y) (hk : ∀ b o, s.heap.get? b = some o → h₁.get? b = some o) :
    Inv (iniCx P w K mg base ps qual sc f cda cc A outer s H) [] (vs.map some) H { s with heap := h₁, toks := tk } := by
  have noA : ∀ b : Addr, b ∉ (iniCx P w K mg base ps qual sc f cda cc A outer s H).ex := fun b z => absurd (show b ∈ ([] : List Addr) from z) (by simp)
  have cb := e0.bs cc oc (e0.mod.kin cc oc lc)
  refine ⟨⟨e0.mod, S.kind, rfl, rfl, Nat.le_refl _, fun x y c h1 h2 => ?_, fun x hx => ?_, fun x c z _ => ?_, fun _ => hd, Around.frames_deeper e0.frames, .inr ⟨rfl, rfl⟩, fun b z => absurd z (noA b), e0.bs, e0.bsz, fun b _ _ => noA b, fun b z => absurd z (noA b), e0.funs, e0.frf⟩,
    rfl, e0.bare, Un.kept hk, ⟨_, hns, fun i x v h1 h2 h3 => ?_⟩, fun x c h => ?_, e0.hok.fresh (Nat.le_refl _), fun x c h => ?_, fun p hp => absurd (show p ∈ ([] : List (Addr × Obj)) from hp) (by simp), e0.hok.kept hk, ?_⟩
  · exact (cell_one h1).1.trans (cell_one h2).1.symm
  · have hx : sc.names.lookup x = some .cell ∨ sc.names.lookup x = some .free := hx
    rcases hx with z | z
    · exact absurd rfl (S.noc _ (PySem.mem_of_lookup z))
    · have e := S.fre _ (PySem.mem_of_lookup z) rfl
      have e : x = "__class__" := e
      subst e
      exact ⟨cc, show ([("__class__", cc)] : List (Str × Addr)).lookup ("__class__" : Str) = some cc by simp [List.lookup]⟩
  · have z : false = true := z
    cases z
  · have hi : i < vs.length := by
      by_cases z : i < vs.length
      · exact z
      · rw [List.getElem?_eq_none (by rw [List.length_map]; omega)] at h2
        cases h2
    have ha : vs[i]? = some v := by
      rw [List.getElem?_map] at h2
      cases e : vs[i]? with
      | none => rw [e] at h2; cases h2
      | some a => rw [e] at h2; cases h2; rfl
    obtain ⟨u, hu, rv⟩ := r.get ha
    have kl := S.par x (List.mem_of_getElem? h1)
    refine ⟨u, rv, .inl ⟨kl, ?_⟩⟩
    refine lookup_of_mem ?_ (List.mem_reverse.mpr (zip_mem h1 hu))
    rw [List.map_reverse, zip_keys hl]
    exact List.pairwise_reverse.mpr (S.nd.imp Ne.symm)
  · obtain ⟨_, rfl⟩ := cell_one h
    exact ⟨v0, oc, hk _ _ cb.1, dc⟩
  · obtain ⟨_, rfl⟩ := cell_one h
    exact cb.2
  · show (vs.map some).length = ps.length
    rw [List.length_map, r.length, hl]

/-! ### such an __init__ keeps a promise -/
/-- what the written part tells of the class at C, of its __init__ at f (its cell at cc, its code at cda) -/
structure IniTxt (P : Program) (K : PySem.W.Frag) (mg : Str → Option Value) (B i newId : String) (bmB : List Value) (C f cc cda : Addr) (qual : Str) (params : Arguments) (body : List Stmt) (sc : Scope) (fd : FuncData) : Prop where
  kf : PySem.W.KxsFacts B i
  fb : ExcBaseFacts B newId i bmB
  fn : ∃ oc od dV kV doc pm an ct osl, fd = ksFn "__init__" qual params body sc dV kV doc pm an (.ref cda) ct cc ∧ K.lookup f = some ⟨oc, od, .func fd, osl⟩
  code : PySem.W.codeIn K (.ref cda) qual = true
  file : ∃ ccl cdd vs ccs tf, K.lookup cda = some ⟨ccl, cdd, .fields vs, ccs⟩ ∧ vs[2]? = some (.str P.main.file tf)
  cell : ∃ cl cld csl, K.lookup cc = some ⟨cl, cld, .cell (some (.ref C)), csl⟩
  cls : ∃ nm q N bs bm hdct sn sub ab col dd k0 k1 k2 k3 k5, K.lookup C = some (excClassObj nm q C N bs bm hdct sn sub ab col dd k0 k1 k2 k3 k5 newId)
  up : PySem.W.ks_superIn K C C "__init__" = some (some (.builtin i))
  isB : PySem.W.subIn K (.ref C) (.type B) = some true
  self : PySem.W.mroIn K C (.ref C) = some true
  opq : PySem.W.nsIn K cStatics "thirdparty.any" = some none
  sup : mg "super" = none
  top : (P.main.scope.names.lookup ("super" : Str)).isSome = false
abbrev superInit (p0 p1 p2 p3 p4 p5 : Pos) (j : Nat) (z : Str) : Stmt := .Expr (.Call (.Attribute (.Call (.Name "super" p0) [] [] p1) "__init__" p2) [.Constant (.str z) j p3] [] p4) p5
def spIni (C : Addr) (t : TS) : Sp := fun vs H Q _ => ∃ (a : Addr) (ws : List V), vs = .ref a :: ws ∧ H a = some (exo a C none) ∧ t { nx := fun _ H' => Q .non H', rt := Q } (vs.map some) H
section
variable {P : Program} {w : World} {K : PySem.W.Frag} {mg : Str → Option Value} {base : Heap} {B i newId : String} {bmB : List Value} {C f cc cda : Addr} {qual : Str} {params : Arguments} {rest : List Stmt} {sc : Scope} {fd : FuncData} {ps : List Str} {p0 p1 p2 p3 p4 p5 : Pos} {j k : Nat} {z : Str} {self : Arg} {sp : Sp}
/-- how super().__init__('..') is run, where it stands on one line -/
def SupEv (p0 p1 p2 p3 p4 : Pos) (j : Nat) (z : Str) : Prop := ∀ env : Env, ∃ pl : Sem Bool, eval (.Call (.Attribute (.Call (.Name "super" p0) [] [] p1) "__init__" p2) [.Constant (.str z) j p3] [] p4) env = (do
  let ov ← attributeBase (.Call (.Name "super" p0) [] [] p1) "__init__" env (eval (.Call (.Name "super" p0) [] [] p1) env)
  standAt p2.atName
  let (f, first) ← holding [ov] (getMethod ov "__init__" pl)
  callWith p4 f first (backTo p4 (starEach [.Constant (.str z) j p3] env)) [])
theorem ini_ok (hev : SupEv p0 p1 p2 p3 p4 j z) (T : IniTxt P K mg B i newId bmB C f cc cda qual params (superInit p0 p1 p2 p3 p4 p5 j z :: rest) sc fd) (S : IniScope ps sc) (hself : (params.posonlyargs ++ params.args).head? = some self) (hp0 : ps[0]? = some self.arg)
    (many : ∀ vs H Q E, sp vs H Q E → vs.length = ps.length)
    (body : ∀ (A : Around) (outer : List Env) (s : Shared) (H : Hp) (vs : List V) (Q : VK) (E : XK), Room k (A.deeper (ksEnv qual sc s.heap.objs.size f (.ref cda) cc)) → sp vs H Q E →
      ∃ a ws, vs = .ref a :: ws ∧ H a = some (exo a C none) ∧ ∃ t, PSs (iniCx P w K mg base ps qual sc f cda cc A outer s H) rest t ∧ t { nx := fun _ H' => Q .non H', rt := Q } (vs.map some) H) :
    FnOk P w K mg base CX0 (k + 1) f fd ps sp := by
  obtain ⟨oc, od, dV, kV, doc, pm, an, ct, osl, rfl, lk⟩ := T.fn
  obtain ⟨ccl, cdd, cvs, ccs, tf, lcode, hfile⟩ := T.file
  obtain ⟨cl, cld, csl, lcell⟩ := T.cell
  obtain ⟨nm, q, N, bs, bm, hdct, sn, sub, ab, col, dd, k0, k1, k2, k3, k5, lC⟩ := T.cls
  refine ⟨many, fun A outer s H args us vs Q E hr e0 hb r hsp => ?_⟩
  have KX : K.In s.heap := e0.mod.kin.keeps fun b o e => (e0.bs b o e).1
  have lim : s.heap.NoLimit := e0.mod.nolimit.keeps fun b o e => (e0.bs b o e).1
  have hl : us.length = ps.length := r.length.symm.trans (many _ _ _ _ hsp)
  refine PySem.ks_codeAny_call_defAt (body := superInit p0 p1 p2 p3 p4 p5 j z :: rest) (binds := ps.zip us) hr.depth (KX _ _ lk) rfl lim (PySem.W.codeRec_of KX T.code) rfl hb S.noc (fun y hy => S.par y.1 (List.of_mem_zip hy).1) (fun h₁ hns hk => ?_) S.co S.gen S.kind
  obtain ⟨a, ws, rfl, hea, t, ht, hq⟩ := body A outer s H vs Q E (hr.deeper _) hsp
  have I : Inv (iniCx P w K mg base ps qual sc f cda cc A outer s H) [] ((V.ref a :: ws).map some) H { s with heap := h₁, toks := s.toks + (ps.zip us).length } := ini_start S hr.hd e0 hl r lcell rfl hns hk
  have hu0 : us[0]? = some (.ref a) := by
    obtain ⟨u, h1, h2⟩ := r.get (i := 0) (x := .ref a) rfl
    rw [h1]
    exact congrArg some h2
  have hself' : (ps.zip us).reverse.lookup self.arg = some (.ref a) := by
    refine lookup_of_mem ?_ (List.mem_reverse.mpr (zip_mem hp0 hu0))
    rw [List.map_reverse, zip_keys hl]
    exact List.pairwise_reverse.mpr (S.nd.imp Ne.symm)
  have fin : ∀ {σ' : L2.St} {H' : Hp} {v : V} {u : Value} {s' : Shared}, Inv (iniCx P w K mg base ps qual sc f cda cc A outer s H) [] σ' H' s' → RelV v u → Q v H' → CE outer P w H s Q u s' := fun J rv q => ⟨_, _, J.os, J.bare, J.base, J.hok, rv, q⟩
  have X1 := I.kIn
  obtain ⟨mb, hmb, hbb⟩ := I.mod.blt
  obtain ⟨t0, hoe⟩ := exo_at I.hok hea
  have hC1 := X1 _ _ lC
  have hcd : PySem.W.clsIn K C = some { name := nm, bases := bs, mro := .ref C :: bm, ns := N, qualname := q, hasDict := hdct, slotNames := sn, subclasses := sub, abstract := ab, collection := col, hasDel := false } := by
    unfold PySem.W.clsIn
    rw [lC] <;> rfl
  have hint : interactive (ksEnv qual sc s.heap.objs.size f (.ref cda) cc) = false := by
    unfold interactive
    simp [S.kind]
  obtain ⟨pl, he⟩ := hev (ksEnv qual sc s.heap.objs.size f (.ref cda) cc)
  refine PySem.ks_wpAt_execs_cons (PySem.ks_wpAt_Expr_any (PySem.ks_wpAt_MethodCall (pl := pl) ?_ he) hint)
  refine PySem.ks_wpAt_super_base (env := ksEnv qual sc s.heap.objs.size f (.ref cda) cc) S.sup S.cls (by decide) rfl (X1 _ _ lk) rfl hself rfl (X1 _ _ lcode) rfl hfile (beq_self_eq_true _) T.top ?_
  refine PySem.W.ks_loadName_global S.kind S.sup (Calls.loadGlobal_builtin (env := ksEnv qual sc s.heap.objs.size f (.ref cda) cc) (I.mod.glob.keeps I.bk) T.sup (hmb.keeps I.bk) ((hbb "super" (by decide +kernel)).trans PyProof.Rows.Boot.«super») ⟨rfl, ?_⟩)
  refine wpAny_loadName_free S.kind S.cls rfl ⟨_, X1 _ _ lcell, rfl⟩ ?_
  refine wpAny_loadName_local S.kind (S.par _ (List.mem_of_getElem? hp0)) hns hself' ?_
  refine PySem.ks_wpAny_isType_cls hC1 rfl ⟨rfl, ?_⟩
  refine PySem.ks_wpAny_call_super hC1 rfl hoe rfl (fun c e => by cases e) (PySem.W.looks_mroIn X1 T.self) (fun h2 e2 k2 => ?_)
  have I2 := I.kept (t' := s.toks + (ps.zip us).length) k2
  have X2 := I2.kIn
  have hoe2 := k2 _ _ hoe
  have J2 : PySem.W.InstAt h2 a (PySem.HandSPX.excO C t0) C none := ⟨hoe2, rfl, rfl, trivial⟩
  have hup : PySem.W.alongIn K "__init__" (((Value.ref C :: bm).dropWhile (· != .ref C)).drop 1) = some (some (.builtin i)) := by
    have z := T.up
    unfold PySem.W.ks_superIn at z
    rw [hcd] at z
    exact z
  have haC : a ≠ C := fun z => by
    have n := (I.bs C _ (I.mod.kin _ _ lC)).2
    rw [← z, hea] at n
    cases n
  refine PySem.W.kxs_getMethod T.kf e2 (PySem.W.looks_opaque X2 T.opq) (l₀ := .ref C :: bm) (fun A Q E s k q => wpAny_bind ((PySem.W.looks_clsIn X2 hcd) A _ E s k (wpAny_pure q))) rfl X2 hup (J2.type.andThen (PySem.W.looks_subIn X2 T.isB)) haC (by decide) ?_
  have I3 : Inv (iniCx P w K mg base ps qual sc f cda cc A outer s H) [(h2.objs.size, PySem.W.kxs_mw i a)] ((V.ref a :: ws).map some) H ⟨h2.push (PySem.W.kxs_mw i a), s.gens, s.drawn, s.toks + (ps.zip us).length + 1, s.os⟩ :=
    ClX.pin_new (s := ⟨h2, s.gens, s.drawn, s.toks + (ps.zip us).length, s.os⟩) (t' := s.toks + (ps.zip us).length + 1) I2 (fun b o e => Heap.get?_push_of_some _ e) (Nat.le_refl _) (Heap.get?_push_size _ rfl) (fun v z => nomatch z)
  refine PySem.W.kxs_callWith (i := i) (x := a) rfl (PySem.Calls.evalArgs_plain ?_)
  have PA1 : PA (iniCx P w K mg base ps qual sc f cda cc A outer s H) [.Constant (.str z) j p3] (tCons (tC (.str z)) tNil) := pa_cons pe_str pa_nil
  refine thnF (PA1.run p4 _ _ ((V.ref a :: ws).map some) H (fun vs H' => vs.length ≤ 1 ∧ H' = H) I3 ⟨Nat.le_refl _, rfl⟩) fun us4 s4 ⟨vs4, H4, I4, r4, l4, e4⟩ => ?_
  subst e4
  refine ⟨ClX.pin_at I4, ?_⟩
  have X4 := I4.kIn
  obtain ⟨t4, hoe4⟩ := exo_at I4.hok hea
  obtain ⟨g4, gs4, d4, tk4, os4⟩ := s4
  refine call_mw T.fb (X4 _ _ lC) hoe4 (ClX.pin_at I4) (by show us4.length ≤ sizeLine; rw [← r4.length, sizeLine_eq]; omega) fun h5 t5 k5 e5 => ?_
  have I5 := (ClX.unpin I4).write (t' := tk4) (x := a) (e := a) (o := exo a C none) (by rw [hea]; exact True.intro) (.inl rfl) k5 ⟨_, e5⟩ (exo_ok e5)
  have eu : upd H4 a (exo a C none) = H4 := by
    funext b
    by_cases hb : b = a
    · rw [hb, upd_same, hea]
    · rw [upd_ne hb]
  rw [eu] at I5
  refine wpAt_of_wpAny (thnF (ht.run [] _ _ _ _ I5 hq) fun fl s' hs => ?_)
  match fl, hs with
  | .ret u, hs =>
    obtain ⟨v, σ', H', J, rv, q⟩ := hs
    exact fin J rv q
  | .next, hs =>
    obtain ⟨σ', H', J, q⟩ := hs
    exact fin (v := V.non) (u := Value.none) J rfl q
  | .brk, hs =>
    obtain ⟨_, _, _, q⟩ := hs
    exact False.elim q
  | .cont, hs =>
    obtain ⟨_, _, _, q⟩ := hs
    exact False.elim q
end
end VG

set_option maxRecDepth 100000
/-! The name of an exception's class; errors that keep what they were given. -/
namespace VG
open PySem PySem.Spec PyProof.Rows L2

/-! ### o.__class__ of an own exception, C.__name__ of an own class -/
structure ClsTxt (K : PySem.W.Frag) (C : Addr) (nm : Str) : Prop where
  ga : PySem.W.findIn K (.ref C) "__getattribute__" = some (some (.builtin "BaseException.__getattribute__"))
  gg : PySem.W.findIn K (.ref C) "__getattr__" = some none
  exC : PySem.W.subIn K (.ref C) (.type "BaseException") = some true
  isC : (PySem.W.clsIn K C).isSome = true
  ca : PySem.W.findIn K (.ref C) "__class__" = some (some (.builtin "object.__class__"))
  cn : PySem.W.specialIn K (.builtin "object.__class__") "__get__" = some (some (.builtin "getset_descriptor.__get__"))
  ct : PySem.W.takesIn K (.builtin "object.__class__") = some true
  cm : PySem.W.mroIn K C (.type "object") = some true
  rd : PySem.W.readsIn K C (.type "type") = true
  na : PySem.W.findCls K (.ref C) (.type "type") "__name__" = some (.get (.builtin "getset_descriptor.__get__") (.builtin "type.__name__") (.ref C) (.type "type"))
  ty : PySem.W.typeIn K (.ref C) = some (.type "type")
  nm : ∃ oc od dt sl tk, K.lookup C = some ⟨oc, od, dt, sl⟩ ∧ sl[2]? = some (some (.str nm tk))
section
variable {prog : Program} {w : World} {A : Around} {E : Value → Shared → Prop} {s : Shared} {K : PySem.W.Frag} {C x : Addr} {nm : Str} {ox : Obj} {od : Option Obj}
theorem find_class (T : ClsTxt K C nm) : PySem.W.findObj K C od "__class__" = some (.bind (.builtin "getset_descriptor.__get__") (.builtin "object.__class__")) := by
  obtain ⟨cd, hc⟩ := Option.isSome_iff_exists.mp T.isC
  unfold PySem.W.findObj
  rw [hc, Option.bind_some, T.ca, Option.bind_some]
  simp [T.cn, T.ct]
theorem get_class {expr : Bool} {Q : Value → Shared → Prop} (T : ClsTxt K C nm) (X : K.In s.heap) (I : PySem.W.InstAt s.heap x ox C od) (h : Q (.ref C) { s with toks := s.toks + 1 }) : wpAny (model prog w) A (getAttr (.ref x) "__class__" expr) Q E s := by
  obtain ⟨hp, g, d, t, os⟩ := s
  have ty := I.type (M := model prog w)
  have own : (onTheHeap (Value.ref C) && Value.builtin "BaseException.__getattribute__" == Value.builtin "object.__getattribute__") = false := by
    rw [show (Value.builtin "BaseException.__getattribute__" == Value.builtin "object.__getattribute__") = false by decide +kernel, Bool.and_false]
  have plain : (expr && onTheHeap (Value.builtin "BaseException.__getattribute__")) = false := by cases expr <;> rfl
  unfold getAttr getAttrBy
  refine wpAny_bind (wpAny_mkText (wpAny_holding (wpAny_bind (ty.at (wpAny_bind ((PySem.W.looks_findIn X T.ga).at ?_))))))
  dsimp only
  rw [own, if_neg (by decide)]
  unfold getAttrByItsOwn hookBefore
  refine wpAny_bind ?_
  rw [if_pos (show onTheHeap (Value.ref C) = true from rfl)]
  refine (PySem.W.looks_findIn X T.gg).at (wpAny_bind (wpAny_attempt (wpAny_holding ?_)))
  unfold callGetattribute
  rw [plain, if_neg (by decide)]
  unfold boundAndCalled
  rw [PySem.F.excAttr_ValueError.ga.bind (.ref x)]
  refine wpAny_bind (wpAny_pure (wpAny_call (codeAny_call_builtin PySem.F.excAttr_ValueError.ga.plain PySem.F.entry_bexc_ga ?_)))
  refine @PySem.W.check_slot (model prog w) _ _ ⟨hp, g, d, t + 1, os⟩ "BaseException.__getattribute__" "BaseException" "__getattribute__" (.ref x) [.str "__class__" t] [] _ (by decide +kernel) (by decide +kernel)
    (ty.andThen (PySem.W.looks_subIn X T.exC)) (PySem.F.args_bexc_ga (.ref x) (.str "__class__" t)) ?_
  unfold Builtin.«object.__getattribute__»
  refine wpAny_bind (wpAny_of_eq (a := ((Value.ref x : Value), [Value.str "__class__" t])) (by first | rfl | (simp only [slotArgs]; rfl)) ?_)
  refine wpAny_bind (wpAny_pure (wpAny_bind (ty.at (wpAny_bind ((PySem.W.looks_find X I (find_class T)).at ?_)))))
  refine wpAny_bind (wpAny_holding (wpAny_call (PySem.W.class_get (s := ⟨hp, g, d, t + 1, os⟩) X I T.cm ?_)))
  refine wpAny_pure ?_
  exact PySem.W.handed_on (v := .ref C) rfl h
theorem get_name {expr : Bool} {Q : Value → Shared → Prop} (T : ClsTxt K C nm) (X : K.In s.heap) (h : ∀ tk, Q (.str nm tk) { s with toks := s.toks + 1 }) : wpAny (model prog w) A (getAttr (.ref C) "__name__" expr) Q E s := by
  obtain ⟨oc, od, dt, sl, tk, lC, hsl⟩ := T.nm
  refine PySem.W.cls_bind X T.rd T.na ?_
  obtain ⟨hp, g, d, t, os⟩ := s
  have hC := X _ _ lC
  have ty : PySem.W.Looks (model prog w) hp (typeOf (.ref C)) (.type "type") := PySem.W.looks_typeIn X T.ty
  have L1 : PySem.W.Looks (model prog w) hp (isSubtype (.type "type") (.type "type")) true := PySem.W.Looks.of_pure (by rw [isSubtype_type]; kernel_rfl)
  refine wpAny_call (codeAny_call_builtin PySem.W.KF.slot_gs.plain PySem.W.KF.entry_gs (PySem.W.KF.slot_gs.check _ _ _ _ _ _ _ _ PySem.W.ktyn_type (PySem.W.KF.args_gs _ _ _) ?_))
  unfold Builtin.«getset_descriptor.__get__» Builtin.Getset_descriptor.descrGet
  rw [PySem.W.dga_obj]
  refine wpAny_bind (wpAny_pure ?_)
  unfold Builtin.Getset_descriptor.descrGetter Builtin.Getset_descriptor.descrCheckInstance Builtin.Getset_descriptor.descrNameAndClass isInstance
  simp only [PySem.W.ktyn_owner]
  repeat lk
  refine ⟨Code.quiet_builtin _ (by decide +kernel), codeAny_builtin PySem.W.ktyn_entry ?_⟩
  unfold Builtin.«type.__name__» Builtin.keptObject PySem.slotAt
  dsimp only
  refine wpAny_bind (wpAny_bind (wpAny_bind (wpAny_loadPart_at hC (wpAny_pure ?_))))
  rw [hsl]
  exact wpAny_pure (wpAny_pure (PySem.W.handed_on (v := .str nm tk) rfl (h tk)))
end
/-- o.__class__.__name__, o an exception that is being made -/
def tClsName (K : PySem.W.Frag) (to : TE) : TE := fun σ H Q => to σ H fun x H1 => ∃ (a C : Addr) (nm : Str), x = .ref a ∧ ClsTxt K C nm ∧ (H1 a = some (exo a C none) ∨ ∃ (dx : Addr) (fs : List (Str × V)), H1 a = some (exo a C (some dx)) ∧ H1 dx = some (exd dx fs)) ∧ Q (.str nm) H1
theorem pe_clsName {X : Cx} {o : Expr} {to : TE} {p1 p2 : Pos} (ho : PE X o to) (b1 : attributeBase o "__class__" X.env (eval o X.env) = eval o X.env := by rfl)
    (b2 : attributeBase (.Attribute o "__class__" p1) "__name__" X.env (eval (.Attribute o "__class__" p1) X.env) = eval (.Attribute o "__class__" p1) X.env := by rfl) :
    PE X (.Attribute (.Attribute o "__class__" p1) "__name__" p2) (tClsName X.K to) := by
  refine ⟨fun pins s σ H Q I h => ?_⟩
  refine attr_of b2 (attr_of b1 (thn (ho.run pins s σ H _ I h) fun u s1 ⟨x, H1, I1, rx, a, C, nm, ex, T, hea, q⟩ => ?_))
  subst ex
  obtain rfl : u = Value.ref a := rx
  have fin : ∀ {ox : Obj} {od : Option Obj}, PySem.W.InstAt s1.heap a ox C od → wpAny (model X.prog X.w) X.A (getAttr (.ref a) "__class__" true) (fun o s₁ => wpAny (model X.prog X.w) X.A (getAttr o "__name__" true) (EP X pins σ Q) X.xe s₁) X.xe s1 := fun J =>
    get_class T I1.kIn J (get_name T (I1.tok _).kIn fun tk => ⟨.str nm, H1, (I1.tok _).tok _, ⟨tk, rfl⟩, q⟩)
  rcases hea with e | ⟨dx, fs, e, ed⟩
  · obtain ⟨t1, ho1⟩ := exo_at I1.hok e
    exact fin (od := none) ⟨ho1, rfl, rfl, trivial⟩
  · obtain ⟨t1, ho1⟩ := exo_at I1.hok e
    obtain ⟨mA, hns, rel⟩ := exd_at I1.hok ed
    obtain ⟨oD, _, _, hoD, _, _⟩ := hns.count (within_of rel)
    exact fin (od := some oD) ⟨ho1, rfl, rfl, hoD⟩
end VG

set_option maxRecDepth 100000
/-! try: .. except (A, B, C) as n: .. -/
namespace VG
open PySem PySem.Spec PyProof.Rows L2

theorem flying_kept {B h h' : Heap} {l : List Env} {a : Addr} {Z : Obj → Prop} (k : ∀ b o, h.get? b = some o → h'.get? b = some o) (x : HandSPX.FlyingZ B l a Z h) : HandSPX.FlyingZ B l a Z h' := by
  obtain ⟨st, nb, ff, oe, vs, T, oT, ts, h1, h2, h3, h4, h5, h6, h7, h8, h9⟩ := x
  exact ⟨fun b o e => k b o (st b o e), nb, ff.of_keeps fun b o e _ => ⟨o, k b o e, rfl⟩, oe, vs, T, oT, ts, k _ _ h1, h2, h3, h4, h5, h6, k _ _ h7, h8, h9⟩
/-- what such a clause wishes of an exception of the body (one of another class is not looked at here) -/
def wAs3 (K : PySem.W.Frag) (cs : List Value) (i n : Nat) (ts : Addr → Value → Option Addr → TS) (D : Ends) : WX := fun cls d σ H => PySem.W.exmAny K cls cs = some true ∧
  ∀ a, H a = none → σ.length = n → ts a cls d { nx := fun σ' H' => D.nx (σ'.set i none) H', rt := D.rt, bk := fun σ' H' => D.bk (σ'.set i none) H', ct := fun σ' H' => D.ct (σ'.set i none) H' } (σ.set i (some (.ref a))) H
section
variable {X : Cx} {x1 x2 x3 n : Str} {c1 c2 c3 : Value} {i j : Nat} {body suite : List Stmt} {b₀ : Stmt} {q1 q2 q3 tpos pos pos' : Pos} {tb : WX → TS} {ts : Addr → Value → Option Addr → TS}
theorem name_at {pins : List (Addr × Obj)} {σ : L2.St} {H : Hp} {s : Shared} {x : Str} {c : Value} {p : Pos} {E : Value → Shared → Prop} {Q : Value → Shared → Prop} (I : Inv X pins σ H s) (hc : Names X x c) (q : Q c s) : wpAny (model X.prog X.w) X.A (eval (.Name x p) X.env) Q E s := by
  obtain ⟨hg, hd, hm | ⟨hm, hv, hn⟩⟩ := hc
  · exact ld_glob I hg hm q hd
  · exact ld_blt I hg hm hv q hn hd
theorem ps_try_as3 (hs : X.stack = X.env :: X.outer) (hf : X.env.frame = some X.env.locals) (hN : X.N.Nodup) (hi : X.N[i]? = some n) (hln : X.env.kindOf n = some .local) (n1 : Names X x1 c1) (n2 : Names X x2 c2) (n3 : Names X x3 c3)
    (hb : ∀ (W : WX) (pn : List (Addr × Obj)) (xe : Value → Shared → Prop), Takes (X.tr pn xe) W → PassesOwn (model X.prog X.w) X.A X.env xe → PSs (X.tr pn xe) body (tb W))
    (hsu : ∀ (a : Addr) (oe : Obj) (cls : Value) (d : Option Addr) (pn : List (Addr × Obj)), Zc cls d oe → (∃ vs, oe.data = .fields vs) → PSs (X.suite a ((a, oe) :: pn)) (b₀ :: suite) (ts a cls d)) :
    PS X (.Try body [.ExceptHandler (some (.Tuple [.Name x1 q1, .Name x2 q2, .Name x3 q3] j tpos)) (some n) (b₀ :: suite) pos'] [] [] pos) (fun D σ H => tb (wAs3 X.K [c1, c2, c3] i X.N.length ts D) D σ H) := by
  refine ⟨fun pins s σ H D I h => ?_⟩
  have ok := I.ok
  have hfr : X.A.frames = some (X.env :: X.outer) := by rw [ok.frames, hs]
  have loc : Loc X.env.scope n := .inl hln
  refine wpAny_Try_except (wpAny_mono ((hb (wAs3 X.K [c1, c2, c3] i X.N.length ts D) (X.pn ++ pins) (fun e s₁ => wpAny (model X.prog X.w) X.A (noteFrame e X.env) (fun _ s₂ => wpAny (model X.prog X.w) X.A (setFlight e none) (fun _ s₃ =>
    wpAny (model X.prog X.w) X.A (handleBy e X.env [.ExceptHandler (some (.Tuple [.Name x1 q1, .Name x2 q2, .Name x3 q3] j tpos)) (some n) (b₀ :: suite) pos']) (SP X pins D) X.xe s₃) X.xe s₂) X.xe s₁) (fun u s' xx => ?_) PassesOwn.looking).run [] s σ H D (I.toTry _) h)
    (fun f s1 hsp => ?_) (fun e s1 he => he))
  · obtain ⟨a, B, sI, pins', σ', H', cls, d, rfl, J', nb, up, sky, na, os, ag, yes, go⟩ := xx
    have J : Inv X pins σ' H' sI := J'.ofTry ok
    refine Sky.land Zc.steady hfr hf (show Sky B (X.env :: X.outer) a (Zc cls d) X.env.locals s'.heap by rw [← hs]; exact sky) fun h3 fl3 up3 => ?_
    have J3 : Inv X pins σ' H' { s' with heap := h3 } := J.landed nb fl3.1 (up.trans up3) os ag
    obtain ⟨oe3, vs3, he3, hz3, hd3⟩ := fl3.there
    have nfr : a ∉ frs (X.env :: X.outer) := fun hm => by
      obtain ⟨_, o', e', z⟩ := fl3.2.2.1.mem hm
      rw [he3] at e'
      cases e'
      exact z _ hd3
    have nL : a ≠ X.env.locals := fun z => nfr (List.mem_filterMap.mpr ⟨X.env, List.mem_cons_self, by rw [hf, z]⟩)
    have nF : a ∉ X.fs := fun hm => by
      obtain ⟨e, he, q⟩ := List.mem_filterMap.mp hm
      exact nfr (List.mem_filterMap.mpr ⟨e, List.mem_cons_of_mem _ he, q⟩)
    have S3 := J3.suite he3 hd3 na nL nF
    have up13 := up.trans up3
    refine wpAny_handleBy_cons (codeAny_handlers_test ?_) (by intro q; cases q)
    refine wpAny_Tuple (wpAny_items_cons (name_at (X := X.suite a ((a, oe3) :: (X.pn ++ pins))) S3 n1 (wpAny_items_cons (name_at (X := X.suite a ((a, oe3) :: (X.pn ++ pins))) S3 n2 (wpAny_items_cons (name_at (X := X.suite a ((a, oe3) :: (X.pn ++ pins))) S3 n3 (wpAny_items_nil ⟨by size_fits, ?_⟩)))))))
    have kp : ∀ q o, h3.get? q = some o → (h3.push { cls := .type "tuple", data := .seq [c1, c2, c3].toArray }).get? q = some o := fun _ _ z => Heap.get?_push_of_some _ z
    have ty : PySem.W.Looks (model X.prog X.w) (h3.push { cls := .type "tuple", data := .seq [c1, c2, c3].toArray }) (typeOf (.ref a)) cls := fun A Q E s k q => wpAny_typeOf_ref (k _ _ (kp _ _ he3)) (by rw [hz3.1]; exact q)
    have fl4 := flying_kept kp fl3
    have up4 : h3.UpToSlots (h3.push { cls := .type "tuple", data := .seq [c1, c2, c3].toArray }) := .of_keeps kp
    have J4 : Inv X pins σ' H' { s' with heap := h3.push { cls := .type "tuple", data := .seq [c1, c2, c3].toArray } } := J.landed nb fl4.1 (up13.trans up4) os ag
    refine (PySem.W.exm_tup3 J4.kIn ty (Heap.get?_push_size h3 rfl) yes).here ?_
    refine codeAny_handlers_suite_as (HandSPX.lands_againZ fl4 fun h5 fl5 up5 => ?_)
    have J5 : Inv X pins σ' H' { s' with heap := h5 } := J.landed nb fl5.1 ((up13.trans up4).trans up5) os ag
    obtain ⟨oe5, vs5, he5, hz5, hd5⟩ := fl5.there
    have S5 := J5.suite he5 hd5 na nL nF
    refine store_ok (X := X.suite a ((a, oe5) :: (X.pn ++ pins))) (v := .ref a) S5 hN hi loc rfl (fun s6 S6 => ?_) (.inr hln)
    refine wpAny_mono ((hsu a oe5 cls d (X.pn ++ pins) hz5 ⟨_, hd5⟩).run [] s6 _ H' _ S6 (go a na J.len)) (fun f s7 hsp => ?_) (fun _ _ z => False.elim z)
    have fin : ∀ {σ7 : L2.St} {H7 : Hp} {Q : Shared → Prop}, Inv (X.suite a ((a, oe5) :: (X.pn ++ pins))) [] σ7 H7 s7 → (∀ s8, Inv X pins (σ7.set i none) H7 s8 → Q s8) →
        wpAny (model X.prog X.w) X.A (do bindName X.env n .none; unbindBehindTheSuite X.env n pos') (fun _ s8 => Q s8) X.xe s7 := fun S7 q => gone_ok (S7.unsuite ok) hN hi hln q
    match f, hsp with
    | .next, ⟨_, _, S7, q⟩ => exact fin S7 fun s8 J8 => ⟨_, _, J8, q⟩
    | .brk, ⟨_, _, S7, q⟩ => exact fin S7 fun s8 J8 => ⟨_, _, J8, q⟩
    | .cont, ⟨_, _, S7, q⟩ => exact fin S7 fun s8 J8 => ⟨_, _, J8, q⟩
    | .ret u, ⟨v, _, _, S7, r, q⟩ => exact fin S7 fun s8 J8 => ⟨_, _, _, J8, r, q⟩
  · match f, hsp with
    | .next, ⟨σ', H', J', q⟩ => exact wpAny_execs_nil ⟨σ', H', J'.ofTry ok, q⟩
    | .brk, ⟨σ', H', J', q⟩ => exact ⟨σ', H', J'.ofTry ok, q⟩
    | .cont, ⟨σ', H', J', q⟩ => exact ⟨σ', H', J'.ofTry ok, q⟩
    | .ret u, ⟨v, σ', H', J', r, q⟩ => exact ⟨v, σ', H', J'.ofTry ok, r, q⟩
end
end VG

set_option maxRecDepth 100000
/-! A def that is called within a suite with the exception that is in hand; it reads its fields and raises nothing. -/
namespace VG
open PySem PySem.Spec PyProof.Rows L2
open L2H (RoomH PinOk cxH inv_startH)
/-- p: the exception's address and its object -/
structure FnE (P : Program) (w : World) (K : PySem.W.Frag) (mg : Str → Option Value) (base : Heap) (CX : CXT) (k : Nat) (f : Addr) (fd : FuncData) (ps : List Str) (sp : Addr × Obj → Sp) : Prop where
  many : ∀ p vs H Q E, sp p vs H Q E → vs.length = ps.length
  runs : ∀ (A : Around) (outer : List Env) (s : Shared) (H : Hp) (args : Args) (us : List Value) (vs : List V) (Q : VK) (E : XK) (p : Addr × Obj), RoomH k A → PinOk outer H s p → Env0 P w K mg base A outer s H →
    BindsTo s fd args (ps.zip us) → Vals vs us → sp p vs H Q E → codeAny (model P w) A (.call (.ref f) args) (CR CX outer P w H s Q E) s
section
variable {P : Program} {w : World} {K : PySem.W.Frag} {mg : Str → Option Value} {base : Heap}
theorem okE {x qual : Str} {st : Stmt} {f : Addr} {fd : FuncData} {N ps : List Str} {k : Nat} {sp : Addr × Obj → Sp} (F : Fun K x qual st f fd) (S : FnScope N ps (defScope st)) (many : ∀ p vs H Q E, sp p vs H Q E → vs.length = ps.length)
    (body : ∀ (cdv : Value) (A : Around) (outer : List Env) (s : Shared) (H : Hp) (vs : List V) (Q : VK) (E : XK) (p : Addr × Obj), RoomH k (A.deeper (envOfC qual (defScope st) s.heap.objs.size f cdv)) → sp p vs H Q E →
      ∃ t, PSs (cxH CX0 P w K mg base N qual (defScope st) f cdv A outer s H E p).nox (defBody st) t ∧ t { nx := fun _ H' => Q .non H', rt := Q } (L2.start N vs) H) : FnE P w K mg base CX0 (k + 1) f fd ps sp := by
  obtain ⟨oc, od, kV, doc, pm, an, cdv, ct, osl, rfl, lk, hcd⟩ := F.ex
  refine ⟨many, fun A outer s H args us vs Q E p hr pin e0 hb r q => ?_⟩
  have hl := many _ _ _ _ _ q
  have KX : K.In s.heap := e0.mod.kin.keeps fun b o e => (e0.bs b o e).1
  have lim : s.heap.NoLimit := e0.mod.nolimit.keeps fun b o e => (e0.bs b o e).1
  have kinds : ∀ y ∈ ps.zip us, (defScope st).names.lookup y.1 = some .local ∨ ((defScope st).names.lookup y.1 = some .cell ∧ ((cellsFrom (s.heap.objs.size + 1) (defScope st).names []).lookup y.1).isSome = true) := fun ⟨n, v⟩ hy => by
    rcases S.par n (List.of_mem_zip hy).1 with z | z
    · exact .inl z
    · exact .inr ⟨z, PySem.W.cellsFrom_some _ _ _ (.inl z)⟩
  refine codeAny_call_function hr.depth (KX _ _ lk) rfl S.co S.gen rfl (PySem.W.codeRec_of KX hcd) (hb _ _ _ _ ?_)
  refine wpAny_newFunctionEnv_cells S.kind kinds fun env he s1 x1 => ?_
  subst he
  refine ⟨lim.keeps x1.toInCall.keep, codeAny_func ?_⟩
  obtain ⟨t, ht, hq⟩ := body cdv A outer s H vs Q E p (hr.deeper _) q
  have I : Inv (cxH CX0 P w K mg base N qual (defScope st) f cdv A outer s H E p) [] (L2.start N vs) H s1 := inv_startH S pin e0 hl r x1
  refine wpAny_mono (ht.nox.run [] s1 (L2.start N vs) H _ I hq) (fun fl s' hs => ?_) fun e s' hs => hs
  match fl, hs with
  | .ret u, ⟨v, _, H', J, rv, z⟩ => exact ⟨v, H', J.os, J.bare, J.base, J.hok, rv, z⟩
  | .next, ⟨_, H', J, z⟩ => exact ⟨V.non, H', J.os, J.bare, J.base, J.hok, rfl, z⟩
  | .brk, ⟨_, _, _, z⟩ => exact z.elim
  | .cont, ⟨_, _, _, z⟩ => exact z.elim
end
section
variable {X : Cx} {CX : CXT} {k : Nat} {f : Addr} {fd : FuncData} {ps : List Str} {sp : Addr × Obj → Sp} {E : XK} {x : Str} {q pos : Pos} {e : Expr} {es : List Expr} {t : TA} {p : Addr × Obj}
theorem pe_callE (F : FnE X.prog X.w X.K X.mg X.base CX k f fd ps sp) (hr : RoomH k X.A) (hp : p ∈ X.pn) (hg : Gl X x) (hm : X.mg x = some (.ref f)) (hk : PySem.W.keepIn X.K (.ref f) = true) (hb : Binds X.K fd ps []) (hx : Passes CX X E)
    (ha : PA X (e :: es) t) (n1 : (x == ("__debug__" : Str)) = false := by decide) (n2 : starEach (e :: es) X.env = (false, eval e X.env) :: starEach es X.env := by rfl)
    (n3 : (backTo pos (starEach es X.env)).any (·.1) = false := by rfl) : PE X (.Call (.Name x q) (e :: es) [] pos) (tCall (sp p) [] E t) := by
  refine ⟨fun pins s σ H Q I q0 => wpAny_Call_Name_kw (ld_glob I hg hm (PySem.W.callWith_K (h₀ := X.base) I.ok.mod.kin hk (thn (ha.run pos pins s σ H _ I q0) fun us s1 ⟨vs, H1, I1, r, q⟩ => ⟨I1.kIn, ?_⟩) n2 n3) n1)⟩
  have q : sp p (vs ++ []) H1 Q E := q
  rw [List.append_nil] at q
  have l2 : (us ++ []).length = ps.length := by
    rw [List.append_nil]
    exact r.length.symm.trans (F.many _ _ _ _ _ q)
  have b := hb s1 us I1.kIn l2
  rw [List.append_nil] at b
  have P1 := I1.pin p (List.mem_append_left _ hp)
  have pin : PinOk X.stack H1 s1 p := ⟨P1.1, P1.2.1, fun hm => (List.mem_cons.mp (I1.stkSub p.1 hm)).elim P1.2.2.1 P1.2.2.2.1, P1.2.2.2.2⟩
  refine wpAny_call (codeAny_mono (F.runs X.A X.stack s1 H1 ⟨us, []⟩ us vs Q E p hr pin I1.env0 b r q) fun res s' z => ?_)
  match res, z with
  | .error err, z => exact hx pins σ H1 s1 err s' I1 z
  | .ok (.ret u), z => exact I1.after z
  | .ok .next, z => exact z.elim
  | .ok .brk, z => exact z.elim
  | .ok .cont, z => exact z.elim
end
/-! ### e.f of the exception in hand, whatever its class -/
def exFields : List Str := ["code", "given", "at", "path", "name", "word", "layer", "start", "goal", "limit", "line", "subject", "most"]
/-- a class of errors whose fields are its instances' own -/
structure OwnX (K : PySem.W.Frag) (C : Addr) : Prop where
  xf : XfC K C
  no : ∀ f ∈ exFields, PySem.W.findIn K (.ref C) f = some none
def ownXB (K : PySem.W.Frag) (C : Addr) : Bool := xfB K C && exFields.all fun f => decide (PySem.W.findIn K (.ref C) f = some none)
theorem ownX_of {K : PySem.W.Frag} {C : Addr} (h : ownXB K C = true) : OwnX K C := by
  obtain ⟨h1, h2⟩ := Bool.and_eq_true_iff.mp h
  exact ⟨xfB_ok h1, fun f hf => of_decide_eq_true (List.all_eq_true.mp h2 f hf)⟩
def tXp (K : PySem.W.Frag) (p : Addr × Obj) (f : Str) (te : TE) : TE := fun σ H Q => te σ H fun x H1 => x = .ref p.1 ∧ ∃ (C dd : Addr) (fs : List (Str × V)) (v : V), p.2.cls = .ref C ∧ OwnX K C ∧ p.2.dict = some dd ∧ (∃ vs, p.2.data = .fields vs) ∧
  H1 dd = some (.xd fs) ∧ fs.lookup f = some v ∧ Q v H1
theorem pe_xp {X : Cx} {p : Addr × Obj} {e : Expr} {te : TE} {pos : Pos} {n : Str} (hp : p ∈ X.pn) (hn : n ∈ exFields) (he : PE X e te) (hb : attributeBase e n X.env (eval e X.env) = eval e X.env := by rfl) : PE X (.Attribute e n pos) (tXp X.K p n te) := by
  refine ⟨fun pins s σ H Q I h => attr_of hb (thn (he.run pins s σ H _ I h) fun u s1 hh => ?_)⟩
  obtain ⟨x, H1, I1, rx, ex, C, dd, fs, v, ec, T, ed, ⟨vs, hd⟩, ea, l, q⟩ := hh
  subst ex
  obtain rfl : u = Value.ref p.1 := rx
  obtain ⟨ha, _⟩ := I1.pin p (List.mem_append_left _ hp)
  obtain ⟨mA, hns, hr⟩ := (show ObjOk X.prog X.w H1 s1.heap dd (.xd fs) from I1.hok dd _ ea)
  obtain ⟨od, ho, hl⟩ := lookIn_ns hns
  obtain ⟨u, hu, ru⟩ := RelO.some_of (v := v) (o := mA n) (by rw [← l]; exact hr n)
  have J : PySem.W.InstAt s1.heap p.1 p.2 C (some od) := ⟨ha, ec, by unfold PySem.W.notCls; rw [hd] <;> rfl, by rw [ed]; exact ho⟩
  exact HandSPX.exc_get I1.kIn J T.xf.ga T.xf.gg T.xf.exC (PySem.W.findObj_own T.xf.hdC (T.no n hn) rfl (by rw [hl, hu])) (handed_of ru) ⟨v, H1, I1.tok _, ru, q⟩
end VG

set_option maxRecDepth 100000
/-! The fields of the exception in hand, by its code. -/
namespace VG
open PySem PySem.Spec PyProof.Rows L2
theorem same_upd {H : Hp} {a : Addr} {o : HO} (h : H a = none) : Same H (upd H a o) := fun b u e => by rw [upd_ne (ne_of_none e h)]; exact e
/-- nm stands in l, as `in` tells it -/
def eqIn (l : List Str) (nm : Str) : Bool := (l.map PyData.str).any fun z => PyData.eqv z (.str nm)
/-- p is an own error with the code nm and the fields fs -/
structure Caught (K : PySem.W.Frag) (H : Hp) (p : Addr × Obj) (nm : Str) (fs : List (Str × V)) : Prop where
  ex : ∃ (C dd : Addr), p.2.cls = .ref C ∧ OwnX K C ∧ p.2.dict = some dd ∧ (∃ vs, p.2.data = .fields vs) ∧ H dd = some (.xd fs)
  code : fs.lookup ("code" : Str) = some (V.str nm)
  sh : SeqAt.shaped (.str nm) = true
theorem Caught.same {K : PySem.W.Frag} {H H' : Hp} {p : Addr × Obj} {nm : Str} {fs : List (Str × V)} (e : Same H H') (c : Caught K H p nm fs) : Caught K H' p nm fs := by
  obtain ⟨⟨C, dd, h1, h2, h3, h4, h5⟩, h6, h7⟩ := c
  exact ⟨⟨C, dd, h1, h2, h3, h4, e _ _ h5⟩, h6, h7⟩
theorem Caught.get {K : PySem.W.Frag} {H : Hp} {p : Addr × Obj} {nm f : Str} {fs : List (Str × V)} {v : V} {Q : VK} (c : Caught K H p nm fs) (l : fs.lookup f = some v) (q : Q v H) :
    ∃ (C dd : Addr) (fs : List (Str × V)) (v : V), p.2.cls = .ref C ∧ OwnX K C ∧ p.2.dict = some dd ∧ (∃ vs, p.2.data = .fields vs) ∧ H dd = some (.xd fs) ∧ fs.lookup f = some v ∧ Q v H := by
  obtain ⟨⟨C, dd, h1, h2, h3, h4, h5⟩, _, _⟩ := c
  exact ⟨C, dd, fs, v, h1, h2, h3, h4, h5, l, q⟩
theorem strs_all {K : PySem.W.Frag} {H : Hp} : ∀ l : List Str, DpAll K H (l.map V.str) (l.map PyData.str)
  | [] => .nil
  | x :: l => .cons (.str x) (strs_all l)
section
variable {X : Cx} {p : Addr × Obj} {x f : Str} {i j1 j2 j3 : Nat} {l : List Str} {es fes : List Expr} {p1 p2 p3 p4 p5 p6 p7 p8 p9 : Pos}
/-- the fields ns of the exception in hand, in slot i -/
def tFlds (K : PySem.W.Frag) (p : Addr × Obj) (i : Nat) (ns : List Str) : TA := fun σ H Q => σ[i]? = some (some (.ref p.1)) ∧ ∃ (nm : Str) (fs : List (Str × V)) (ys : List V), Caught K H p nm fs ∧ ns.map (fun f => fs.lookup f) = ys.map some ∧ Q ys H
theorem pa_flds0 : PA X [] (tFlds X.K p i []) := by
  refine ⟨fun pos pins s σ H Q I h => ?_⟩
  obtain ⟨_, nm, fs, ys, _, e, q⟩ := h
  have e2 : ys = [] := by
    cases ys with
    | nil => rfl
    | cons y ys => cases e
  subst e2
  exact pa_nil.run pos pins s σ H Q I q
theorem pa_flds {ns : List Str} (hp : p ∈ X.pn) (hv : PE X (.Name x p1) (tVar i)) (hf : f ∈ exFields) (ha : PA X es (tFlds X.K p i ns)) : PA X (.Attribute (.Name x p1) f p2 :: es) (tFlds X.K p i (f :: ns)) := by
  refine ⟨fun pos pins s σ H Q I h => ?_⟩
  obtain ⟨hs, nm, fs, ys, c, e, q⟩ := h
  match ys, e with
  | y :: ys, e =>
    have e1 := List.cons.inj e
    obtain ⟨C, dd, h1, h2, h3, h4, h5⟩ := c.ex
    refine (pa_cons (pe_xp hp hf hv) ha).run pos pins s σ H Q I ?_
    refine ⟨_, hs, rfl, C, dd, fs, _, h1, h2, h3, h4, h5, e1.1, ?_⟩
    exact ⟨hs, nm, fs, ys, c, e1.2, q⟩
theorem small_line {n : Nat} (h : n ≤ 1000) : n ≤ sizeLine := Nat.le_trans h (by decide)
/-- if a test of the code: return the fields ns -/
def tIfRet (K : PySem.W.Frag) (p : Addr × Obj) (i : Nat) (c : Str → Bool) (ns : List Str) : TS := fun D σ H => σ[i]? = some (some (.ref p.1)) ∧ ∃ (nm : Str) (fs : List (Str × V)), Caught K H p nm fs ∧
  (c nm = true → ∃ ys, ns.map (fun f => fs.lookup f) = ys.map some ∧ ∀ T H', Same H H' → SqT K H' T ys → D.rt (.ref T) H') ∧ (c nm = false → ∀ H', Same H H' → D.nx σ H')
theorem flds_end {K : PySem.W.Frag} {σ : L2.St} {H H1 : Hp} {ns : List Str} {nm : Str} {fs : List (Str × V)} {R : VK} (hl : ns.length ≤ 1000) (hs : σ[i]? = some (some (.ref p.1))) (sm : Same H H1) (c : Caught K H p nm fs)
    (h : ∃ ys, ns.map (fun f => fs.lookup f) = ys.map some ∧ ∀ T H', Same H H' → SqT K H' T ys → R (.ref T) H') : tTup (tFlds K p i ns) σ H1 R := by
  obtain ⟨ys, e, k⟩ := h
  have hz : ys.length = ns.length := by
    have z := congrArg List.length e
    rw [List.length_map, List.length_map] at z
    exact z.symm
  exact ⟨hs, nm, fs, ys, c.same sm, e, small_line (by omega), fun T hT => k T _ (sm.trans (same_upd hT)) (SqT.of upd_same)⟩
theorem ps_inRet {ns : List Str} (hp : p ∈ X.pn) (hu : X.A.units + 65 < cLine) (hl : l.length ≤ 1000) (hn : ns.length ≤ 1000) (sh : SeqAt.shaped (.tuple (l.map PyData.str)) = true) (hv : PE X (.Name x p1) (tVar i))
    (ha : PA X es (fun _ H Q => Q (l.map V.str) H)) (he : PA X fes (tFlds X.K p i ns)) :
    PS X (.If (.Compare (.Attribute (.Name x p1) "code" p3) [.In] [.Tuple es j1 p4] p5) [.Return (some (.Tuple fes j2 p7)) p8] [] p9) (tIfRet X.K p i (eqIn l) ns) := by
  refine ⟨fun pins s σ H D I h => (ps_if (pt_cmpR (op_inT hu) (pe_xp hp (by decide) hv) (pe_tup ha) rfl) (pss_one (ps_ret (pe_tup he))) pss_nil).run pins s σ H D I ?_⟩
  obtain ⟨hs, nm, fs, c, hy, hn⟩ := h
  have hz : (l.map V.str).length ≤ sizeLine := by rw [List.length_map]; exact small_line hl
  refine ⟨_, hs, rfl, c.get c.code ⟨hz, fun T hT => ?_⟩⟩
  have sm := same_upd (o := .tup (l.map V.str)) hT
  refine ⟨.str nm, l.map PyData.str, .str nm, .tup (SqT.of upd_same) (strs_all l), c.sh, sh, eqIn l nm, rfl, ?_⟩
  cases e : eqIn l nm with
  | true => exact iteT (flds_end (by assumption) hs sm c (hy e))
  | false => exact iteF (hn e _ sm)
theorem ps_eqRet {ns : List Str} {z : Str} (hp : p ∈ X.pn) (hn : ns.length ≤ 1000) (hv : PE X (.Name x p1) (tVar i)) (he : PA X fes (tFlds X.K p i ns)) :
    PS X (.If (.Compare (.Attribute (.Name x p1) "code" p3) [.Eq] [.Constant (.str z) j1 p4] p5) [.Return (some (.Tuple fes j2 p7)) p8] [] p9) (tIfRet X.K p i (fun nm => decide (nm = z)) ns) := by
  refine ⟨fun pins s σ H D I h => (ps_if (pt_cmpR op_eq (pe_xp hp (by decide) hv) pe_str rfl) (pss_one (ps_ret (pe_tup he))) pss_nil).run pins s σ H D I ?_⟩
  obtain ⟨hs, nm, fs, c, hy, hn⟩ := h
  obtain ⟨C, dd, h1, h2, h3, h4, h5⟩ := c.ex
  refine ⟨_, hs, rfl, C, dd, fs, _, h1, h2, h3, h4, h5, c.code, ?_⟩
  refine ⟨rfl, decide (nm = z), congrArg V.bl ?_, ?_⟩
  · by_cases y : nm = z
    · subst y
      rw [decide_eq_true rfl, decide_eq_true rfl]
    · rw [decide_eq_false y, decide_eq_false fun q => y (V.str.inj q)]
  cases e : decide (nm = z) with
  | true => exact iteT (flds_end (by assumption) hs (Same.refl H) c (hy e))
  | false => exact iteF (hn e _ (Same.refl H))
/-- return the fields ns if the code is z else () -/
def tEndRet (K : PySem.W.Frag) (p : Addr × Obj) (i : Nat) (z : Str) (ns : List Str) : TS := fun D σ H => σ[i]? = some (some (.ref p.1)) ∧ ∃ (nm : Str) (fs : List (Str × V)), Caught K H p nm fs ∧
  ∃ ys, (if decide (nm = z) = true then ns else []).map (fun f => fs.lookup f) = ys.map some ∧ ∀ T H', Same H H' → SqT K H' T ys → D.rt (.ref T) H'
theorem ps_endRet {ns : List Str} {z : Str} (hp : p ∈ X.pn) (hn : ns.length ≤ 1000) (hv : PE X (.Name x p1) (tVar i)) (he : PA X fes (tFlds X.K p i ns)) :
    PS X (.Return (some (.IfExp (.Compare (.Attribute (.Name x p1) "code" p3) [.Eq] [.Constant (.str z) j1 p4] p5) (.Tuple fes j2 p7) (.Tuple [] j3 p2) p6)) p8) (tEndRet X.K p i z ns) := by
  refine ⟨fun pins s σ H D I h => (ps_ret (pe_ifExp (pt_cmpR op_eq (pe_xp hp (by decide) hv) pe_str rfl) (pe_tup he) (pe_tup (pa_flds0 (p := p) (i := i))))).run pins s σ H D I ?_⟩
  obtain ⟨hs, nm, fs, c, h⟩ := h
  obtain ⟨C, dd, h1, h2, h3, h4, h5⟩ := c.ex
  refine ⟨_, hs, rfl, C, dd, fs, _, h1, h2, h3, h4, h5, c.code, ?_⟩
  refine ⟨rfl, decide (nm = z), congrArg V.bl ?_, ?_⟩
  · by_cases y : nm = z
    · subst y
      rw [decide_eq_true rfl, decide_eq_true rfl]
    · rw [decide_eq_false y, decide_eq_false fun q => y (V.str.inj q)]
  cases e : decide (nm = z) with
  | true =>
    rw [e, if_pos rfl] at h
    exact iteT (flds_end (by assumption) hs (Same.refl H) c h)
  | false =>
    rw [e, if_neg Bool.false_ne_true] at h
    exact iteF (flds_end (by decide) hs (Same.refl H) c h)
end
end VG

set_option maxRecDepth 100000
/-! ask(lambda: ..): ('', what it gives), or (code,) + the fields of the error that it raises. -/
namespace VG
open PySem PySem.Spec PyProof.Rows L2 LamX
open L2H (RoomH roomH_of)
/-- the fields of an error with the code nm, as the law tells them -/
def fieldsOf (nm : Str) : List Str :=
  if eqIn ["InvalidRatio", "InvalidNumber", "InvalidName", "InvalidLayer", "InvalidPlace", "InvalidPoint", "InvalidForm", "InvalidLimit"] nm = true then ["given"]
  else if eqIn ["InvalidRow", "InvalidFact", "InvalidCommand"] nm = true then ["at"]
  else if eqIn ["InvalidStep", "UnlikeEnds"] nm = true then ["path"]
  else if eqIn ["DuplicateName", "UnknownName"] nm = true then ["name"]
  else if eqIn ["InvalidText", "UnknownScript"] nm = true then ["word"]
  else if decide (nm = "InvalidTable") = true then ["layer"]
  else if decide (nm = "InvalidWay") = true then ["layer", "start", "goal"]
  else if decide (nm = "Full") = true then ["limit"]
  else if decide (nm = "InvalidPage") = true then ["line"]
  else if decide (nm = "TooMany") = true then ["subject", "most"] else []
/-- the fields of the error p: of its code's names, in a tuple -/
def spFields (K : PySem.W.Frag) : Addr × Obj → Sp := fun p vs H Q _ => vs = [.ref p.1] ∧ ∃ (nm : Str) (fs : List (Str × V)) (ys : List V), Caught K H p nm fs ∧ (fieldsOf nm).map (fun f => fs.lookup f) = ys.map some ∧ ∀ T H', Same H H' → SqT K H' T ys → Q (.ref T) H'
/-- an own error of class cls, its dict d -/
structure Err (K : PySem.W.Frag) (H : Hp) (cls : Value) (d : Option Addr) (nm : Str) (fs : List (Str × V)) : Prop where
  ex : ∃ (C dd : Addr), cls = .ref C ∧ OwnX K C ∧ d = some dd ∧ H dd = some (.xd fs)
  code : fs.lookup ("code" : Str) = some (V.str nm)
  sh : SeqAt.shaped (.str nm) = true
theorem Err.caught {K : PySem.W.Frag} {H : Hp} {cls : Value} {d : Option Addr} {nm : Str} {fs : List (Str × V)} {a : Addr} {oe : Obj} (e : Err K H cls d nm fs) (hz : Zc cls d oe) (hf : ∃ vs, oe.data = .fields vs) : Caught K H (a, oe) nm fs := by
  obtain ⟨⟨C, dd, h1, h2, h3, h4⟩, h5, h6⟩ := e
  exact ⟨⟨C, dd, hz.1.trans h1, h2, hz.2.trans h3, hf, h4⟩, h5, h6⟩
/-- what ask wishes of an error of the body, cs the classes that it catches -/
def askX (K : PySem.W.Frag) (cs : List Value) (Q : VK) : XK := fun cls d H => PySem.W.exmAny K cls cs = some true ∧ ∃ (nm : Str) (fs : List (Str × V)) (ys : List V), Err K H cls d nm fs ∧ (fieldsOf nm).map (fun f => fs.lookup f) = ys.map some ∧ ys.length ≤ 1000 ∧
  ∀ T H', Same H H' → SqT K H' T (.str nm :: ys) → Q (.ref T) H'
def askQ (Q : VK) : VK := fun x H1 => [V.str "", x].length ≤ sizeLine ∧ ∀ T, H1 T = none → Q (.ref T) (upd H1 T (.tup [.str "", x]))
def TAsk (K : PySem.W.Frag) (cs : List Value) : (XK → Hp → VK → Prop) → Hp → VK → Prop := fun tl H Q => tl (askX K cs Q) H (askQ Q)
section
variable {X : Cx}
/-- the suite: return (e.code,) + fields(e) -/
def tSuite (K : PySem.W.Frag) (i : Nat) : Addr → Value → Option Addr → TS := fun a cls d D σ H => σ[i]? = some (some (.ref a)) ∧ ∃ (nm : Str) (fs : List (Str × V)) (ys : List V), Err K H cls d nm fs ∧ (fieldsOf nm).map (fun f => fs.lookup f) = ys.map some ∧ ys.length ≤ 1000 ∧
  ∀ T H', Same H H' → SqT K H' T (.str nm :: ys) → D.rt (.ref T) H'
theorem ps_suite {a : Addr} {oe : Obj} {cls : Value} {d : Option Addr} {pn : List (Addr × Obj)} {i k : Nat} {e x : Str} {f : Addr} {fd : FuncData} {ps : List Str} {p1 p2 p3 p4 p5 p6 p7 p8 : Pos} {j : Nat}
    (F : FnE X.prog X.w X.K X.mg X.base CX0 k f fd ps (spFields X.K)) (hr : RoomH k X.A) (hg : (X.suite a ((a, oe) :: pn)).env.scope.names.lookup x = some .globalImplicit) (hm : X.mg x = some (.ref f)) (hk : PySem.W.keepIn X.K (.ref f) = true) (hb : L2.Binds X.K fd ps [])
    (hz : Zc cls d oe) (hf : ∃ vs, oe.data = .fields vs) (hv : ∀ p, PE (X.suite a ((a, oe) :: pn)) (.Name e p) (tVar i)) (n1 : (x == ("__debug__" : Str)) = false) :
    PS (X.suite a ((a, oe) :: pn)) (.Return (some (.BinOp (.Tuple [.Attribute (.Name e p1) "code" p2] j p3) .Add (.Call (.Name x p4) [.Name e p5] [] p6) p7)) p8) (tSuite X.K i a cls d) := by
  have hp : (a, oe) ∈ (X.suite a ((a, oe) :: pn)).pn := List.mem_cons_self
  refine ⟨fun pins s σ H D I h => (ps_ret (pe_op op_catT (pe_tup (pa_cons (pe_xp hp (by decide) (hv p1)) pa_nil)) (pe_callE (E := fun _ _ _ => False) (X := X.suite a ((a, oe) :: pn)) F ⟨hr.dp, hr.un⟩ hp hg hm hk hb (fun _ _ _ _ _ _ _ h => h.elim) (pa_cons (hv p5) pa_nil) n1))).run pins s σ H D I ?_⟩
  obtain ⟨hs, nm, fs, ys, er, el, hy, q⟩ := h
  have c := er.caught (a := a) hz hf
  obtain ⟨C, dd, h1, h2, h3, h4, h5⟩ := c.ex
  refine ⟨_, hs, rfl, C, dd, fs, _, h1, h2, h3, h4, h5, c.code, small_line (by show 1 ≤ 1000; decide), fun T hT => ?_⟩
  have sm := same_upd (o := .tup [.str nm]) hT
  refine ⟨_, hs, rfl, nm, fs, ys, c.same sm, el, fun T2 H2 sm2 ht => ?_⟩
  have st : SqT X.K H2 T [.str nm] := Same.tup sm2 (SqT.of upd_same)
  refine ⟨T, T2, [.str nm], ys, rfl, rfl, st, ht, List.cons_ne_nil _ _, Nat.le_trans (Nat.add_le_add_left hy 1) (by decide), fun e => ?_, fun _ T3 hT3 => ?_⟩
  · subst e
    exact q T H2 (sm.trans sm2) st
  · exact q T3 _ ((sm.trans sm2).trans (same_upd hT3)) (SqT.of upd_same)
theorem exm_imp {K : PySem.W.Frag} {cls : Value} {cs : List Value} {Q : VK} {d : Option Addr} {H : Hp} (h : askX K cs Q cls d H) : PySem.W.exmAny K cls cs = some true := h.1
theorem ask_gives {Ng : List Str} {x a e y q xA xB xC : Str} {sg : Scope} {g f : Addr} {fd : FuncData} {ps : List Str} {cA cB cC cdg : Value} {j1 j2 j3 j4 k : Nat} {p1 p2 p3 p4 p5 p6 p7 p8 p9 p10 p11 p12 p13 p14 p15 p16 p17 p18 p19 : Pos}
    (F : FnE X.prog X.w X.K X.mg X.base CX0 k f fd ps (spFields X.K)) (hr : Room (k + 1) X.A) (nd : Ng.Nodup) (h1 : Ng[1]? = some e) (hl : sg.names.lookup e = some .local)
    (gA : sg.names.lookup xA = some .globalImplicit) (gB : sg.names.lookup xB = some .globalImplicit) (gC : sg.names.lookup xC = some .globalImplicit) (gy : sg.names.lookup y = some .globalImplicit)
    (mA : X.mg xA = some cA) (mB : X.mg xB = some cB) (mC : X.mg xC = some cC) (my : X.mg y = some (.ref f)) (hk : PySem.W.keepIn X.K (.ref f) = true) (hb : L2.Binds X.K fd ps [])
    (dA : (xA == ("__debug__" : Str)) = false) (dB : (xB == ("__debug__" : Str)) = false) (dC : (xC == ("__debug__" : Str)) = false) (dy : (y == ("__debug__" : Str)) = false) (de : (e == ("__debug__" : Str)) = false) (dc : (e == ("__classdict__" : Str)) = false)
    (h0 : ∀ f : Addr, (L2.start Ng [V.ref f])[0]? = some (some (V.ref f))) (h2 : 1 < Ng.length) :
    GivesTo X Ng x sg g cdg [.Try [.Return (some (.Tuple [.Constant (.str "") j1 p1, .Call (.Name a p2) [] [] p3] j2 p4)) p5]
      [.ExceptHandler (some (.Tuple [.Name xA p6, .Name xB p7, .Name xC p8] j3 p9)) (some e) [.Return (some (.BinOp (.Tuple [.Attribute (.Name e p10) "code" p11] j4 p12) .Add (.Call (.Name y p13) [.Name e p14] [] p15) p16)) p17] p18] [] [] p19] a q (TAsk X.K [cA, cB, cC]) := by
  intro f' c' s H Q tl act hc h
  have room : RoomH k (cxOf C8.CX0 X.prog X.w X.K X.mg X.base Ng x sg g cdg X.A X.stack s H C8.E0).nox.A := roomH_of (hr.deeper _)
  refine ⟨_, pss_one (ps_try_as3 (X := (cxOf C8.CX0 X.prog X.w X.K X.mg X.base Ng x sg g cdg X.A X.stack s H C8.E0).nox) (c1 := cA) (c2 := cB) (c3 := cC) (i := 1)
      (tb := fun W D σ H => ∃ Ech : XK, (∀ cls d σ' H', Ech cls d H' → W cls d σ' H') ∧ σ[0]? = some (some (.ref f')) ∧ H c' = some (CodeO c' q) ∧ tl Ech H (askQ D.rt))
      (ts := tSuite X.K 1) rfl rfl nd h1 hl ⟨gA, dA, .inl mA⟩ ⟨gB, dB, .inl mB⟩ ⟨gC, dC, .inl mC⟩ (fun W pn xe tk _ => ?_) (fun b oe cls d pn hz hf => ?_)), ?_⟩
  · refine ⟨fun pins s' σ H' D I h' => ?_⟩
    obtain ⟨Ech, hW, e1, e2, e3⟩ := h'
    have hp := act W pn xe Ech p2 p3 tk hW
    have hq := pss_one (st := .Return (some (.Tuple [.Constant (.str "") j1 p1, .Call (.Name a p2) [] [] p3] j2 p4)) p5) (ps_ret (pe_tup (pa_cons pe_str (pa_cons hp pa_nil))))
    exact hq.run pins s' σ H' D I ⟨e1, e2, e3⟩
  · refine pss_one (ps_suite F room ?_ my hk hb hz hf (fun p => pe_var h1 (.inl hl) de dc) dy)
    exact gy
  · refine ⟨askX X.K [cA, cB, cC] Q, fun cls d σ' H' z => ?_, h0 f', hc, h⟩
    obtain ⟨z1, nm, fs, ys, z2, z3, z4, z5⟩ := z
    refine ⟨z1, fun b hb hn => ⟨?_, nm, fs, ys, z2, z3, z4, z5⟩⟩
    have hn : σ'.length = Ng.length := hn
    rw [List.getElem?_set_self (by omega)]
end
end VG

set_option maxRecDepth 100000
/-! A lambda with one parameter that bears a default, handed to a def that calls it without arguments. -/
namespace VG
open PySem PySem.Spec PyProof.Rows L2 LamX
/-! ### its function object -/
abbrev dlFn (qual : Str) (params : Arguments) (body : Expr) (scope : Scope) (cl : List (Str × Addr)) (pm cdv ctv dv : Value) : FuncData := { PySem.W.kla_fn "<lambda>" qual params body scope cl pm cdv ctv with defaults := dv }
abbrev dlObj (qual : Str) (params : Arguments) (body : Expr) (scope : Scope) (cl : List (Str × Addr)) (pm cdv ctv dv : Value) : Obj := { cls := .type "function", data := .func (dlFn qual params body scope cl pm cdv ctv dv) }
abbrev oneTup (u : Value) : Obj := { cls := .type "tuple", data := .seq [u].toArray }
section
variable {M : Model} {A : Around} {E : Value → Shared → Prop} {s : Shared} {Q : Value → Shared → Prop}
/-- the closure's tuple, if there is one -/
theorem clo_tup {clos : List (Str × Addr)} {k : Value → Sem Value} (h : ∀ (ctv : Value) (h1 : Heap), (∀ b o, s.heap.get? b = some o → h1.get? b = some o) → s.heap.objs.size ≤ h1.objs.size → wpAny M A (k ctv) Q E { s with heap := h1 }) :
    wpAny M A (do
      let t ← if clos.isEmpty then pure .none else newTextTuple ((clos.mergeSort fun a b => a.1.cps.toList ≤ b.1.cps.toList).map (.ref ·.2))
      k t) Q E s := by
  match clos with
  | [] => exact wpAny_bind (wpAny_pure (h .none s.heap (fun _ _ e => e) (Nat.le_refl _)))
  | q :: r =>
    refine wpAny_bind (wpAny_newTextTuple (h _ _ (fun b o e => Heap.get?_push_of_some _ e) ?_))
    rw [Heap.size_push]
    omega
variable {qual : Str} {params : Arguments} {body : Expr} {scope : Scope} {env : Env} {c P : Addr} {ps : Array Value} {pos : Pos} {line : Nat} {mg : Str → Option Value} {clos : List (Str × Addr)} {dv : Value}
/-- it is made: its code object stands in the table -/
theorem dl_hit {cv : Value} (hcl : closureFor scope env = pure clos) (eg : env.globals = mainGlobals) (gm : s.heap.Ns mainGlobals mg) (ec : env.code = .ref c) (C : PySem.W.CodeHd s.heap c P) (tab : s.heap.get? P = some { cls := .none, data := .fields ps }) (ok : TriplesOk ps.toList)
    (hit : codeAmong pos ps.toList = some cv) (bl : s.heap.BuiltinsAt mg P)
    (h : ∀ (ctv : Value) (h1 : Heap) (tk : Tok), (∀ b o, s.heap.get? b = some o → h1.get? b = some o) → s.heap.objs.size ≤ h1.objs.size →
      Q (.ref h1.objs.size) { s with heap := h1.push (dlObj qual params body scope clos ((mg "__name__").getD .none) cv ctv dv), toks := tk }) :
    wpAny M A (makeTail "<lambda>" qual params (.expr body) scope env dv .none none pos line) Q E s := by
  obtain ⟨bm, ob, y1, y2, _, _, y5, y6, y7, y8⟩ := bl
  unfold makeTail
  rw [hcl, eg]
  refine wpAny_bind (wpAny_pure (clo_tup fun ctv h1 kp sz => ?_))
  refine wpAny_bind (wpAny_functionCode_hit ec ((C.keeps kp).code (kp _ _ tab) ok) hit ?_)
  refine wpAny_bind (wpAny_builtinsFor (gm.keeps kp) y1 y2 (kp _ _ y5) y6 y7 y8 ?_)
  exact wpAny_bind (wpAny_nsGet (gm.keeps kp) (wpAny_bind (wpAny_pure (wpAny_newObj_type (h ctv h1 s.toks kp sz) (by size_fits)))))
/-- it is made: its code object is new -/
theorem dl_new (hcl : closureFor scope env = pure clos) (eg : env.globals = mainGlobals) (gm : s.heap.Ns mainGlobals mg) (ec : env.code = .ref c) (C : PySem.W.CodeHd s.heap c P) (tab : s.heap.get? P = some { cls := .none, data := .fields ps }) (ok : TriplesOk ps.toList)
    (miss : codeAmong pos ps.toList = none) (gP : mainGlobals ≠ P) (bl : s.heap.BuiltinsAt mg P)
    (h : ∀ (c' : Addr) (ctv : Value) (h1 : Heap) (tk : Tok), Heap.ExtBut P s.heap h1 → s.heap.objs.size ≤ c' → c' < h1.objs.size → h1.CodeRec (.ref c') qual → h1.get? P = some { cls := .none, data := .fields (ps ++ #[rawInt pos.line, rawInt pos.col, .ref c']) } →
      Q (.ref h1.objs.size) { s with heap := h1.push (dlObj qual params body scope clos ((mg "__name__").getD .none) (.ref c') ctv dv), toks := tk }) :
    wpAny M A (makeTail "<lambda>" qual params (.expr body) scope env dv .none none pos line) Q E s := by
  obtain ⟨bm, ob, y1, y2, _, y4, y5, y6, y7, y8⟩ := bl
  unfold makeTail
  rw [hcl, eg]
  refine wpAny_bind (wpAny_pure (clo_tup fun ctv h1 kp sz => ?_))
  refine wpAny_bind (wpAny_functionCodeX ec ((C.keeps kp).code (kp _ _ tab) ok) ((C.keeps kp).tab (kp _ _ tab)) miss fun c' h2 tk ext ge lt _ rec there _ => ?_)
  have gm2 := (gm.keeps kp).extBut ext gP
  refine wpAny_bind (wpAny_builtinsFor gm2 y1 y2 (ext _ _ y4 (kp _ _ y5)) y6 y7 y8 ?_)
  refine wpAny_bind (wpAny_nsGet gm2 (wpAny_bind (wpAny_pure (wpAny_newObj_type (h c' ctv h2 tk (fun b o n e => ext b o n (kp b o e)) (Nat.le_trans sz ge) lt rec there.2) (by size_fits)))))
end
/-! ### made, in the layer -/
section
variable {X : Cx} {pins : List (Addr × Obj)} {σ : L2.St} {H : Hp} {s : Shared}
/-- an object that nothing tracks and no frame is -/
structure Loose (X : Cx) (H : Hp) (s : Shared) (a : Addr) (o : Obj) : Prop where
  get : s.heap.get? a = some o
  free : H a = none
  nofr : a ∉ frs X.stack
theorem new_nofr (I : Inv X pins σ H s) {a : Addr} (h : s.heap.objs.size ≤ a) : a ∉ frs X.stack := fun z => by
  rcases List.mem_cons.mp (I.stkSub _ z) with e | e
  · have h1 := I.lt
    rw [← e] at h1
    exact Nat.lt_irrefl _ (Nat.lt_of_lt_of_le h1 h)
  · exact I.nofs h e
/-- ps's tables and all else, a new code object in one of them -/
theorem tabs_new {T : List (Addr × Str)} {P c' : Addr} {q : Str} {ps : Array Value} {p0 : Pos} (hT : Tabs T H) (hP : H P = some (.tbl ps)) (ok : TriplesOk ps.toList) (at' : ∀ (pos : Pos) (cv : Value), codeAmong pos ps.toList = some cv → ∃ c, cv = .ref c ∧ H c = some (CodeO c q))
    (nC : H c' = none) (hu : ∀ p ∈ T, p.1 = P → p.2 = q) :
    ExtN H (upd (upd H P (.tbl (ps ++ #[rawInt p0.line, rawInt p0.col, .ref c']))) c' (CodeO c' q)) ∧ Tabs T (upd (upd H P (.tbl (ps ++ #[rawInt p0.line, rawInt p0.col, .ref c']))) c' (CodeO c' q)) := by
  have e1 : ExtN H (upd (upd H P (.tbl (ps ++ #[rawInt p0.line, rawInt p0.col, .ref c']))) c' (CodeO c' q)) := fun b o e n => by
    have nP : b ≠ P := fun z => by
      rw [z, hP] at e
      exact n ps (Option.some.inj e).symm
    rw [upd_ne (ne_of_none e nC), upd_ne nP]
    exact e
  have el : (ps ++ #[rawInt p0.line, rawInt p0.col, .ref c']).toList = ps.toList ++ [rawInt p0.line, rawInt p0.col, .ref c'] := by simp
  refine ⟨e1, fun p hp => ?_⟩
  by_cases hb : p.1 = P
  · rw [hu p hp hb, hb]
    refine ⟨_, by rw [upd_ne (ne_of_none hP nC), upd_same], by rw [el]; exact PySem.TriplesOk_snoc _ _ _ _ ok, fun p' cv hcv => ?_⟩
    rw [el] at hcv
    rcases among_app _ ok hcv with z | z
    · obtain ⟨c0, z1, z2⟩ := at' p' cv z
      exact ⟨c0, z1, e1 _ _ z2 codeO_ne⟩
    · exact ⟨c', z, upd_same⟩
  · obtain ⟨qs, a1, a2, a3⟩ := hT p hp
    refine ⟨qs, by rw [upd_ne (ne_of_none a1 nC), upd_ne hb]; exact a1, a2, fun p' cv hcv => ?_⟩
    obtain ⟨c0, z1, z2⟩ := a3 p' cv hcv
    exact ⟨c0, z1, e1 _ _ z2 codeO_ne⟩
/-- lambda a=z: body, evaluated -/
theorem dl_make {T : List (Addr × Str)} {c P : Addr} {params : Arguments} {body : Expr} {scope : Scope} {pos p0 : Pos} {z : Int} {j : Nat} {E : Value → Shared → Prop} {Q : Value → Shared → Prop} (I : Inv X pins σ H s) (TB : TabB X.base X.mg c P) (hcode : X.env.code = .ref c)
    (hm : (P, X.env.qual ++ "<lambda>") ∈ T) (hu : ∀ p ∈ T, p.1 = P → p.2 = X.env.qual ++ "<lambda>") (hT : Tabs T H) (hdef : defaultsOf params X.env = ([eval (.Constant (.int z) j p0) X.env], [])) (hkw : params.kwonlyargs = [])
    (hfree : ∀ y ∈ scope.names, y.2 = .free → ∃ c, X.env.cells.lookup y.1 = some c) (hE : ∀ e s', X.xe e s' → E e s')
    (h : ∀ (f D c' : Addr) (pm ctv u : Value) (H1 : Hp) (s' : Shared), Inv X pins σ H1 s' → ExtN H H1 → Tabs T H1 → RelV (.int z) u → Loose X H1 s' D (oneTup u) →
      Loose X H1 s' f (dlObj (X.env.qual ++ "<lambda>") params body scope (cloFrom X.env.cells scope.names []) pm (.ref c') ctv (.ref D)) → H1 c' = some (CodeO c' (X.env.qual ++ "<lambda>")) → Q (.ref f) s') :
    wpAny (model X.prog X.w) X.A (eval (.Lambda params body scope pos) X.env) Q E s := by
  rw [arm_eval_Lambda, hdef]
  show wpAny (model X.prog X.w) X.A (do let dv ← evalAll [eval (.Constant (.int z) j p0) X.env]; let kdv ← holding dv (evalAllOpt []); makeFunction "<lambda>" (X.env.qual ++ "<lambda>") params (.expr body) scope X.env dv kdv [] pos pos.line) Q E s
  refine wpAny_bind ?_
  show wpAny (model X.prog X.w) X.A (do let v ← eval (.Constant (.int z) j p0) X.env; return v :: (← holding [v] (evalAll []))) _ E s
  refine wpAny_bind (wpAny_mono ((pe_int (X := X)).run pins s σ H (fun v H1 => v = .int z ∧ H1 = H) I ⟨rfl, rfl⟩) (fun u s1 hh => ?_) hE)
  obtain ⟨v, H1, I1, rv, ev, eH⟩ := hh
  subst ev
  rw [eH] at I1
  refine wpAny_bind (wpAny_holding (wpAny_pure (wpAny_pure ?_)))
  refine wpAny_bind (wpAny_holding (wpAny_pure ?_))
  rw [makeFunction_eq, hkw]
  simp only [List.zip_nil_left, List.filterMap_nil, List.isEmpty_nil, List.isEmpty_cons, if_true, Bool.false_eq_true, if_false, pure_bind]
  refine wpAny_bind (wpAny_newTextTuple ?_)
  have D0 : s1.heap.objs.size ≤ s1.heap.objs.size := Nat.le_refl _
  have I2 : Inv X pins σ H { s1 with heap := s1.heap.push (oneTup u), toks := s1.toks } := I1.kept fun b o e => Heap.get?_push_of_some _ e
  obtain ⟨ps, hP, ok, at'⟩ := hT _ hm
  have gP : (s1.heap.push (oneTup u)).get? P = some { cls := .none, data := .fields ps } := I2.hok P _ hP
  have bl : (s1.heap.push (oneTup u)).BuiltinsAt X.mg P := TB.bm.keeps I2.bk
  have dGet : (s1.heap.push (oneTup u)).get? s1.heap.objs.size = some (oneTup u) := Heap.get?_push_size _ rfl
  have dFree : H s1.heap.objs.size = none := I1.hok.fresh (Nat.le_refl _)
  have dNofr : s1.heap.objs.size ∉ frs X.stack := new_nofr I1 (Nat.le_refl _)
  have nDP : s1.heap.objs.size ≠ P := fun z => by
    rw [z, hP] at dFree
    cases dFree
  have sz1 : (s1.heap.push (oneTup u)).objs.size = s1.heap.objs.size + 1 := Heap.size_push _ _
  cases e : codeAmong pos ps.toList with
  | some cv =>
    obtain ⟨c', rfl, hco⟩ := at' pos cv e
    refine dl_hit (mg := X.mg) (c := c) (P := P) (ps := ps) (closure_ok hfree) I2.ok.glob (I2.mod.glob.keeps I2.bk) hcode (TB.code.keeps I2.bk) gP ok e bl fun ctv h1 tk kp sz => ?_
    have sz : (s1.heap.push (oneTup u)).objs.size ≤ h1.objs.size := sz
    have kp : ∀ b o, (s1.heap.push (oneTup u)).get? b = some o → h1.get? b = some o := kp
    have I3 : Inv X pins σ H { s1 with heap := h1.push (dlObj (X.env.qual ++ "<lambda>") params body scope (cloFrom X.env.cells scope.names []) ((X.mg "__name__").getD .none) (.ref c') ctv (.ref s1.heap.objs.size)), toks := tk } := I2.kept fun b o q => Heap.get?_push_of_some _ (kp b o q)
    exact h h1.objs.size s1.heap.objs.size c' _ ctv u H _ I3 (ExtN.refl H) hT rv ⟨Heap.get?_push_of_some _ (kp _ _ dGet), dFree, dNofr⟩ ⟨Heap.get?_push_size _ rfl, I1.hok.fresh (by omega), new_nofr I1 (by omega)⟩ hco
  | none =>
    refine dl_new (mg := X.mg) (c := c) (P := P) (ps := ps) (closure_ok hfree) I2.ok.glob (I2.mod.glob.keeps I2.bk) hcode (TB.code.keeps I2.bk) gP ok e TB.gP bl fun c' ctv h1 tk ext ge lt rec tab => ?_
    obtain ⟨c2, oc, vs, t, e2, hoc, hd, hv⟩ := rec
    cases e2
    have ge : (s1.heap.push (oneTup u)).objs.size ≤ c' := ge
    have ext : ∀ b o, b ≠ P → (s1.heap.push (oneTup u)).get? b = some o → h1.get? b = some o := ext
    have nC : H c' = none := I1.hok.fresh (by omega)
    have I3 := inv_table (t' := tk) (more := #[rawInt pos.line, rawInt pos.col, .ref c']) (h' := h1.push (dlObj (X.env.qual ++ "<lambda>") params body scope (cloFrom X.env.cells scope.names []) ((X.mg "__name__").getD .none) (.ref c') ctv (.ref s1.heap.objs.size))) I2 hP
      (fun b o hb q => Heap.get?_push_of_some _ (ext b o hb q)) (Heap.get?_push_of_some _ tab) ge ⟨oc, vs, t, Heap.get?_push_of_some _ hoc, hd, hv⟩
    obtain ⟨x1, x2⟩ := tabs_new (p0 := pos) (c' := c') hT hP ok at' nC hu
    have off : ∀ b, s1.heap.objs.size ≤ b → b ≠ c' → b ≠ P → upd (upd H P (.tbl (ps ++ #[rawInt pos.line, rawInt pos.col, .ref c']))) c' (CodeO c' (X.env.qual ++ "<lambda>")) b = none := fun b hb n1 n2 => by
      rw [upd_ne n1, upd_ne n2]
      exact I1.hok.fresh hb
    have hPlt : @LT.lt Nat _ P s1.heap.objs.size := I1.hok.lt hP
    have lt : @LT.lt Nat _ c' h1.objs.size := lt
    have ge : @LE.le Nat _ (s1.heap.push (oneTup u)).objs.size c' := ge
    have n1 : @Ne Nat s1.heap.objs.size c' := by omega
    have n2 : @LE.le Nat _ s1.heap.objs.size h1.objs.size := by omega
    have n3 : @Ne Nat h1.objs.size c' := by omega
    have n4 : @Ne Nat h1.objs.size P := by omega
    exact h h1.objs.size s1.heap.objs.size c' _ ctv u _ _ I3 x1 x2 rv ⟨Heap.get?_push_of_some _ (ext _ _ nDP dGet), off _ (Nat.le_refl _) n1 nDP, dNofr⟩ ⟨Heap.get?_push_size _ rfl, off _ n2 n3 n4, new_nofr I1 n2⟩ upd_same
end
/-! ### its names, its call -/
/-- one name of its own, a, that the maker doesn't use; captured ones and globals -/
structure LamD (sc scope : Scope) (a : Str) (N : List Str) : Prop where
  kind : scope.kind = .function
  co : scope.isCoroutine = false
  gen : scope.isGenerator = false
  noc : ∀ y ∈ scope.names, y.2 ≠ .cell
  own : ∀ y ∈ scope.names, y.2 = .local → y.1 = a
  par : scope.names.lookup a = some .local
  out : a ∉ N
  free : ∀ y ∈ scope.names, y.2 = .free → sc.names.lookup y.1 = some .cell ∨ sc.names.lookup y.1 = some .free
def lamDB (sc scope : Scope) (a : Str) (N : List Str) : Bool :=
  decide (scope.kind = .function) && (!scope.isCoroutine && (!scope.isGenerator && (decide (scope.names.lookup a = some .local) && (!N.contains a &&
    scope.names.all fun y => !decide (y.2 = .cell) && ((!decide (y.2 = .local) || decide (y.1 = a)) && (!decide (y.2 = .free) || (decide (sc.names.lookup y.1 = some .cell) || decide (sc.names.lookup y.1 = some .free))))))))
theorem lamD_by {sc scope : Scope} {a : Str} {N : List Str} (h : lamDB sc scope a N = true) : LamD sc scope a N := by
  unfold lamDB at h
  simp only [Bool.and_eq_true, Bool.or_eq_true, Bool.not_eq_true', decide_eq_true_eq, decide_eq_false_iff_not, List.all_eq_true] at h
  obtain ⟨h1, h2, h3, h4, h5, h6⟩ := h
  refine ⟨h1, h2, h3, fun y hy => (h6 y hy).1, fun y hy e => (h6 y hy).2.1.resolve_left fun z => z e, h4, fun z => ?_, fun y hy e => (h6 y hy).2.2.resolve_left fun z => z e⟩
  rw [List.contains_iff_mem.mpr z] at h5
  cases h5
theorem LamD.has {X : Cx} {scope : Scope} {a : Str} {N : List Str} (L : LamD X.env.scope scope a N) (ok : X.Ok) : ∀ y ∈ scope.names, y.2 = .free → ∃ c, X.env.cells.lookup y.1 = some c :=
  fun y hy e => ok.has _ ((L.free y hy e).elim (fun k => .inl k) fun k => .inr k)
section
variable {X : Cx} {pins : List (Addr × Obj)} {σ : L2.St} {H HZ : Hp} {s s1 : Shared}
theorem dl_start {A : Around} {outer : List Env} {E : XK} {scope : Scope} {f c' : Addr} {a : Str} {u : Value} {h1 : Heap} {tk : Nat} (I : Inv X pins σ H s) (L : LamD X.env.scope scope a X.N) (e0 : Env0 X.prog X.w X.K X.mg X.base A outer s1 HZ) (hd : A.handled = none)
    (un : Un (frs X.stack) [] H HZ s.heap s1.heap) (hns : h1.Ns s1.heap.objs.size fun y => ([(a, u)] : List (Str × Value)).reverse.lookup y) (kp : ∀ b o, s1.heap.get? b = some o → h1.get? b = some o) :
    Inv (lamCx X A outer s1 HZ E scope f c') [] σ HZ { s1 with heap := h1, toks := tk } := by
  have caught : ∀ {y c}, (cloFrom X.env.cells scope.names []).lookup y = some c → X.env.cells.lookup y = some c := fun {y c} e => by
    rcases cloFrom_mem (PySem.mem_of_lookup e) with hm | ⟨h1, h2⟩
    · cases hm
    · obtain ⟨c1, hc⟩ := L.has I.ok _ h1 rfl
      have hc : X.env.cells.lookup y = some c1 := hc
      rw [hc] at h2
      rw [show c = c1 from h2]
      exact hc
  have looks : ∀ {y}, scope.names.lookup y = some .free → ∃ c, (cloFrom X.env.cells scope.names []).lookup y = some c := fun {y} hl => mem_lookup (cloFrom_has (cells := X.env.cells) (acc := []) (PySem.mem_of_lookup hl))
  have stays : ∀ {c : Addr} {v : Option Value}, H c = none → s.heap.IsCell c v → h1.IsCell c v := fun {c v} n ⟨o, ho, hd⟩ => by
    obtain ⟨sl, q⟩ := un.any ho n (by simp)
    exact ⟨_, kp _ _ q, hd⟩
  have noX : ∀ b : Addr, b ∉ (lamCx X A outer s1 HZ E scope f c').ex := fun b z => absurd (show b ∈ ([] : List Addr) from z) (by simp)
  have okX : (lamCx X A outer s1 HZ E scope f c').Ok := by
    refine ⟨e0.mod, L.kind, rfl, rfl, Nat.le_refl _, fun y z c h1 h2 => I.ok.inj y z c (caught h1) (caught h2), fun y hy => ?_, fun _ _ z _ => Bool.noConfusion (show false = true from z), fun _ => hd, Around.frames_deeper e0.frames, .inr ⟨rfl, rfl⟩, fun b z => absurd z (noX b), e0.bs, e0.bsz, fun b _ _ => noX b,
      fun b z => absurd z (noX b), e0.funs, e0.frf⟩
    have hy : scope.names.lookup y = some .cell ∨ scope.names.lookup y = some .free := hy
    exact hy.elim (fun hy => absurd rfl (L.noc _ (PySem.mem_of_lookup hy))) looks
  refine ⟨okX, rfl, e0.bare, Un.kept kp, ⟨_, hns, fun i y v g1 g2 g3 => ?_⟩, fun y c e => ?_, e0.hok.fresh (Nat.le_refl _), fun y c e => ?_, fun q hq => absurd (show q ∈ ([] : List (Addr × Obj)) ++ [] from hq) (by simp), e0.hok.kept kp, I.len⟩
  · have g3 : Vis scope y := g3
    rcases g3 with k | k | k
    · have e := L.own _ (PySem.mem_of_lookup k) rfl
      have e : y = a := e
      exact absurd (List.mem_of_getElem? g1) (by rw [e]; exact L.out)
    · exact absurd rfl (L.noc _ (PySem.mem_of_lookup k))
    · obtain ⟨m, hn, hl⟩ := I.loc
      have fr := L.free _ (PySem.mem_of_lookup k) rfl
      obtain ⟨w', r, q⟩ := hl i y v g1 g2 (fr.elim (fun k => .inr (.inl k)) fun k => .inr (.inr k))
      obtain ⟨c2, h2⟩ := looks k
      have c1 := caught h2
      refine ⟨w', r, .inr ⟨.inr k, c2, h2, ?_⟩⟩
      rcases q with ⟨kl, _⟩ | ⟨_, c3, e', z⟩
      · have kl : X.env.scope.names.lookup y = some .local := kl
        rcases fr with k2 | k2 <;> rw [show X.env.scope.names.lookup y = _ from k2] at kl <;> cases kl
      · rw [c1] at e'
        cases e'
        exact stays (I.freeC y _ c1) z
  · obtain ⟨w', z⟩ := I.cell y c (caught e)
    exact ⟨w', stays (I.freeC y c (caught e)) z⟩
  · obtain ⟨v, o, ho, hd⟩ := I.cell y c (caught e)
    exact un.free c o ho (I.freeC y c (caught e)) (by simp)
/-- it is called, in the def that got it -/
theorem dl_act {CXg : CXT} {Eg : XK} {Ng : List Str} {qg x : Str} {sg : Scope} {g f D c' : Addr} {cdg pm ctv u : Value} {params : Arguments} {body : Expr} {scope : Scope} {k i : Nat} {a : Str} {pn : List (Addr × Obj)} {xe : Value → Shared → Prop} {W : WX} {E : XK} {tb : TE} {p1 p2 : Pos}
    (I : Inv X pins σ H s) (L : LamD X.env.scope scope a X.N) (hf : Loose X H s f (dlObj (X.env.qual ++ "<lambda>") params body scope (cloFrom X.env.cells scope.names []) pm (.ref c') ctv (.ref D))) (hD : Loose X H s D (oneTup u))
    (hb : ∀ s2 : Shared, s2.heap.get? D = some (oneTup u) → BindsTo s2 (dlFn (X.env.qual ++ "<lambda>") params body scope (cloFrom X.env.cells scope.names []) pm (.ref c') ctv (.ref D)) ⟨[], []⟩ [(a, u)])
    (tk : Takes ((cxOf CXg X.prog X.w X.K X.mg X.base Ng qg sg g cdg X.A X.stack s H Eg).tr pn xe) W) (hW : ∀ cls d σ' H', E cls d H' → W cls d σ' H') (hr : Room (k + 1) (X.A.deeper (envOfC qg sg s.heap.objs.size g cdg)))
    (bodyOk : ∀ (A : Around) (outer : List Env) (s : Shared) (H : Hp), Room k (A.deeper (lamEnv X scope s.heap.objs.size f c')) → PE (lamCx X A outer s H E scope f c') body tb)
    (hN : Ng[i]? = some x) (hv : Vis sg x) (n1 : (x == ("__debug__" : Str)) = false := by decide) (n2 : (x == ("__classdict__" : Str)) = false := by decide) :
    PE ((cxOf CXg X.prog X.w X.K X.mg X.base Ng qg sg g cdg X.A X.stack s H Eg).tr pn xe) (.Call (.Name x p1) [] [] p2)
      (fun σZ HZ Q => σZ[i]? = some (some (.ref f)) ∧ HZ c' = some (CodeO c' (X.env.qual ++ "<lambda>")) ∧ tb σ HZ Q) := by
  refine ⟨fun pinsZ sZ σZ HZ Q IZ ⟨hs, hc, ht⟩ => wpAny_Call_Name_kw (thn ((pe_var (pos := p1) (i := i) hN hv n1 n2).run pinsZ sZ σZ HZ (fun v H1 => v = .ref f ∧ H1 = HZ) IZ ⟨.ref f, hs, rfl, rfl⟩) fun w s1 ⟨v, H1, I1, r1, ev, eH⟩ => ?_)⟩
  subst ev
  rw [eH] at I1
  obtain rfl : w = Value.ref f := r1
  have still : ∀ {b : Addr} {o : Obj}, Loose X H s b o → s1.heap.get? b = some o := fun {b o} l => I1.base.keep b o l.get l.free l.nofr (fun z => nomatch (show b ∈ ([] : List Addr) from z))
  refine PySem.W.callWith_F0 ⟨_, _, _, _, still hf⟩ ?_
  obtain ⟨⟨oc, vs, t, hoc, hdc, hvc⟩, _, _⟩ := I1.hok c' _ hc
  have run : codeAny (model X.prog X.w) (X.A.deeper (envOfC qg sg s.heap.objs.size g cdg)) (.call (.ref f) ⟨[], []⟩) (CR (L2.CX X.prog X.w) (envOfC qg sg s.heap.objs.size g cdg :: X.stack) X.prog X.w HZ s1 Q E) s1 := by
    refine PySem.W.kla_callFunE hr.depth (still hf) rfl L.co L.gen rfl ⟨c', oc, vs, t, rfl, hoc, hdc, hvc⟩ (hb s1 (still hD) _ _ _ _ ?_)
    refine wpAny_newFunctionEnv (fun y hy => L.noc y hy) (fun y hy => ?_) (fun h1 hns hsb => ⟨I1.nolimit.fresh _ hsb, ?_⟩) L.kind
    · obtain rfl := List.mem_singleton.mp hy
      exact L.par
    show codeAny _ _ (.expr body (lamEnv X scope s1.heap.objs.size f c')) _ _
    have kp : ∀ b o, s1.heap.get? b = some o → h1.get? b = some o := fun b o e => hsb.extBut b o (Nat.ne_of_lt (Heap.lt_size e)) (Heap.get?_push_of_some _ e)
    have J : Inv (lamCx X (X.A.deeper (envOfC qg sg s.heap.objs.size g cdg)) (envOfC qg sg s.heap.objs.size g cdg :: X.stack) s1 HZ E scope f c') [] σ HZ { s1 with heap := h1, toks := s1.toks + ([(a, u)] : List (Str × Value)).length } :=
      dl_start I L I1.env0 hr.hd I1.base hns kp
    refine PySem.W.kla_codeExpr (wpAny_mono ((bodyOk _ _ s1 HZ (hr.deeper _)).run [] _ _ HZ Q J ht) (fun v s' hq => ?_) fun _ _ hq => hq)
    obtain ⟨y, H', J', rv, q⟩ := hq
    exact ⟨y, H', J'.os, J'.bare, J'.base, J'.hok, rv, q⟩
  have hx : Passes (L2.CX X.prog X.w) ((cxOf CXg X.prog X.w X.K X.mg X.base Ng qg sg g cdg X.A X.stack s H Eg).tr pn xe) E := passes_call tk hW
  refine wpAny_call (codeAny_mono run fun r s' hq => ?_)
  match r, hq with
  | .error e, hq => exact hx pinsZ σZ HZ s1 e s' I1 hq
  | .ok (.ret u), hq => exact I1.after hq
  | .ok .next, hq => exact hq.elim
  | .ok .brk, hq => exact hq.elim
  | .ok .cont, hq => exact hq.elim
/-- g(lambda a=z: body) -/
theorem pe_dlcall {T : List (Addr × Str)} {TT : (XK → Hp → VK → Prop) → Hp → VK → Prop} {x y a : Str} {g c P : Addr} {k j : Nat} {z : Int} {pg : Arguments} {bg : List Stmt} {sg : Scope} {dV kV doc pm cdv ct oc : Value} {an od : Option Addr} {osl : Array (Option Value)} {Ng : List Str}
    {params : Arguments} {body : Expr} {scope : Scope} {t : XK → TE} {p p0 lpos pos : Pos} (hg : Gl X x) (hm : X.mg x = some (.ref g)) (hk : PySem.W.keepIn X.K (.ref g) = true)
    (lk : X.K.lookup g = some ⟨oc, od, .func (PySem.W.fnOf x x pg bg sg dV kV doc pm an cdv ct), osl⟩) (hcg : PySem.W.codeIn X.K cdv x = true) (hb : L2.Binds X.K (PySem.W.fnOf x x pg bg sg dV kV doc pm an cdv ct) [y] []) (Sg : FnScope Ng [y] sg) (hNg : Ng[0]? = some y) (hva : Vis sg y)
    (hG : GivesTo X Ng x sg g cdv bg y (X.env.qual ++ "<lambda>") TT)
    (TB : TabB X.base X.mg c P) (hcode : X.env.code = .ref c) (hmT : (P, X.env.qual ++ "<lambda>") ∈ T) (hu : ∀ p ∈ T, p.1 = P → p.2 = X.env.qual ++ "<lambda>") (hr : Room (k + 2) X.A) (L : LamD X.env.scope scope a X.N)
    (hdef : defaultsOf params X.env = ([eval (.Constant (.int z) j p0) X.env], [])) (hkw : params.kwonlyargs = [])
    (binds : ∀ (q : Str) (cl : List (Str × Addr)) (pm cv ctv u : Value) (D : Addr) (s2 : Shared), s2.heap.get? D = some (oneTup u) → BindsTo s2 (dlFn q params body scope cl pm cv ctv (.ref D)) ⟨[], []⟩ [(a, u)])
    (bodyOk : ∀ (A : Around) (outer : List Env) (s : Shared) (H : Hp) (E : XK) (f c' : Addr), Room k (A.deeper (lamEnv X scope s.heap.objs.size f c')) → PE (lamCx X A outer s H E scope f c') body (t E))
    (n0 : (x == ("__debug__" : Str)) = false := by decide) (n1 : (y == ("__debug__" : Str)) = false := by decide) (n2 : (y == ("__classdict__" : Str)) = false := by decide) :
    PE X (.Call (.Name x p) [.Lambda params body scope lpos] [] pos) (tLam T TT t) := by
  refine ⟨fun pins s σ H Q I ⟨hT, h⟩ => wpAny_Call_Name_kw (ld_glob I hg hm (PySem.W.callWith_K (h₀ := X.base) I.ok.mod.kin hk ?_ (by rfl) (by rfl)) n0)⟩
  show wpAny _ _ (spliced ((false, eval (.Lambda params body scope lpos) X.env) :: backTo pos (starEach [] X.env))) _ _ s
  refine Calls.spliced_cons (dl_make I TB hcode hmT hu hT hdef hkw (L.has I.ok) (fun _ _ z => z) fun f D c' pm' ctv u H1 s' I1 eN T1 ru hD hf hco => Calls.spliced_nil ⟨I1.kIn, ?_⟩)
  have run : codeAny (model X.prog X.w) X.A (.call (.ref g) ⟨[.ref f], []⟩) (CR C8.CX0 X.stack X.prog X.w H1 s' Q C8.E0) s' := by
    refine run_ofS (N := Ng) (ps := [y]) (us := [.ref f]) (vs := [.ref f]) lk hcg Sg hr I1.env0 (hb s' [.ref f] I1.kIn rfl) (.cons rfl .nil) rfl fun hr' => ?_
    obtain ⟨t', ht', hq'⟩ := hG f c' s' H1 Q (fun E H' Q' => t E σ H' Q') (fun W pn xe E p1 p2 tk hW => dl_act (i := 0) I1 L hf hD (fun s2 q => binds _ _ _ _ _ _ _ s2 q) tk hW hr' (fun A outer s H hr2 => bodyOk A outer s H E f c' hr2) hNg hva n1 n2) hco (h H1 eN T1)
    exact ⟨t', ht'.nox, hq'⟩
  refine wpAny_call (codeAny_mono run fun r s2 hq => ?_)
  match r, hq with
  | .error e, hq => exact (show False from hq).elim
  | .ok (.ret u), hq => exact I1.after hq
  | .ok .next, hq => exact hq.elim
  | .ok .brk, hq => exact hq.elim
  | .ok .cont, hq => exact hq.elim
end
end VG

set_option maxRecDepth 100000
/-! Data: their types, their sizes, data that stand on new addresses alone. -/
namespace VG
open PySem PySem.Spec PyProof.Rows L2
def tyN : PyData → String
  | .none => "NoneType"
  | .bool _ => "bool"
  | .int _ => "int"
  | .str _ => "str"
  | .list _ => "list"
  | .tuple _ => "tuple"
  | .dict _ => "dict"
theorem tyx_list {K : PySem.W.Frag} {H : Hp} {a : Addr} {xs : List V} (h : SqL K H a xs) : TyX K H (.ref a) (.type "list") := by
  rcases h with (h | ⟨o, h⟩) | ⟨o, its, n, h, c, _⟩
  · exact .base (.lst h)
  · exact .base (.frz h)
  · exact .kList h c
theorem tyx_tup {K : PySem.W.Frag} {H : Hp} {a : Addr} {xs : List V} (h : SqT K H a xs) : TyX K H (.ref a) (.type "tuple") := by
  rcases h with (h | ⟨o, h⟩) | ⟨o, its, n, h, c, _⟩
  · exact .base (.tup h)
  · exact .fTuple h
  · exact .kTuple h c
theorem Dp.tyx {K : PySem.W.Frag} {H : Hp} : ∀ {v : V} {d : PyData}, Dp K H v d → TyX K H v (.type (tyN d))
  | _, _, .non => .base .non
  | _, _, .bl b => .base (.bl b)
  | _, _, .int i => .base (.int i)
  | _, _, .str x => .base (.str x)
  | _, _, .lst h _ => tyx_list h
  | _, _, .tup h _ => tyx_tup h
/-- at most n deep, at most 1000 wide -/
def fit : Nat → PyData → Bool
  | _, .none => true
  | _, .bool _ => true
  | _, .int _ => true
  | _, .str _ => true
  | n + 1, .list ds => decide (ds.length ≤ 1000) && ds.all (fit n)
  | n + 1, .tuple ds => decide (ds.length ≤ 1000) && ds.all (fit n)
  | _, _ => false
/-- what H' has more than H -/
def newer (H H' : Hp) : Hp := fun b => match H b with | none => H' b | some _ => none
theorem newer_at {H H' : Hp} {b : Addr} (h : H b = none) : newer H H' b = H' b := by unfold newer; rw [h]
theorem newer_none {H H' : Hp} {b : Addr} {o : HO} (h : H b = some o) : newer H H' b = none := by unfold newer; rw [h]
theorem newer_sub {H H' : Hp} : Same (newer H H') H' := fun b o e => by
  cases h : H b with
  | none => rw [newer_at h] at e; exact e
  | some u => rw [newer_none h] at e; cases e
/-- fewer were there ahead, more stand now -/
theorem newer_mono {H G H' G' : Hp} (h : ∀ b, H b = none → G b = none) (s : ∀ b, G b = none → ∀ o, H' b = some o → G' b = some o) : Same (newer H H') (newer G G') := fun b o e => by
  cases z : H b with
  | none =>
    rw [newer_at z] at e
    rw [newer_at (h b z)]
    exact s b (h b z) o e
  | some u =>
    rw [newer_none z] at e
    cases e
theorem DpAll.at' {K : PySem.W.Frag} {H : Hp} : ∀ {xs : List V} {ds : List PyData} {i : Nat} {x : V}, DpAll K H xs ds → xs[i]? = some x → ∃ d, ds[i]? = some d ∧ Dp K H x d
  | _, _, 0, _, .cons h _, e => by
    cases e
    exact ⟨_, rfl, h⟩
  | _, _, i + 1, _, .cons _ t, e => DpAll.at' (i := i) t e
theorem DpAll.len {K : PySem.W.Frag} {H : Hp} : ∀ {xs : List V} {ds : List PyData}, DpAll K H xs ds → xs.length = ds.length
  | _, _, .nil => rfl
  | _, _, .cons _ t => congrArg (· + 1) (DpAll.len t)
theorem DpAll.snoc {K : PySem.W.Frag} {H : Hp} {y : V} {d : PyData} (h : Dp K H y d) : ∀ {xs : List V} {ds : List PyData}, DpAll K H xs ds → DpAll K H (xs ++ [y]) (ds ++ [d])
  | _, _, .nil => .cons h .nil
  | _, _, .cons g t => .cons g (DpAll.snoc h t)
/-- while a list of copies grows at D: what is there -/
structure Copying (K : PySem.W.Frag) (H : Hp) (D : Addr) (ds : List PyData) (i : Nat) (G : Hp) : Prop where
  ex : ∃ acc, G D = some (.lst acc) ∧ acc.length = i ∧ DpAll K (newer (upd H D (.lst [])) G) acc (ds.take i)
  same : Same H G
theorem Copying.start {K : PySem.W.Frag} {H : Hp} {D : Addr} {ds : List PyData} (hD : H D = none) : Copying K H D ds 0 (upd H D (.lst [])) :=
  ⟨⟨[], upd_same, rfl, .nil⟩, fun b o e => by rw [upd_ne (ne_of_none e hD)]; exact e⟩
theorem Copying.more {K : PySem.W.Frag} {H G G' : Hp} {D : Addr} {ds : List PyData} {i : Nat} {d : PyData} {y : V} (hD : H D = none) (c : Copying K H D ds i G) (hd : ds[i]? = some d) (s : Same G G') (hy : Dp K (newer G G') y d) :
    ∃ acc, G' D = some (.lst acc) ∧ acc.length = i ∧ Copying K H D ds (i + 1) (upd G' D (.lst (acc ++ [y]))) := by
  obtain ⟨⟨acc, ea, el, ed⟩, sm⟩ := c
  have off : ∀ {b : Addr} {u : HO}, b ≠ D → upd G' D u b = G' b := fun h => upd_ne h
  refine ⟨acc, s _ _ ea, el, ⟨acc ++ [y], upd_same, by rw [List.length_append, el]; rfl, ?_⟩, fun b o e => by rw [off (ne_of_none e hD)]; exact s _ _ (sm _ _ e)⟩
  have et : ds.take (i + 1) = ds.take i ++ [d] := by
    rw [List.take_add_one, hd]
    rfl
  rw [et]
  refine DpAll.snoc (Dp.same (newer_mono (fun b z => ?_) fun b z o e => ?_) d y hy) (DpAll.same (newer_mono (fun b z => z) fun b z o e => ?_) _ _ ed)
  · have n : b ≠ D := fun q => by
      rw [q, ea] at z
      cases z
    rw [upd_ne n]
    cases q : H b with
    | none => rfl
    | some o =>
      rw [sm b o q] at z
      cases z
  · have n : b ≠ D := fun q => by
      rw [q, upd_same] at z
      cases z
    rw [off n]
    exact e
  · have n : b ≠ D := fun q => by
      rw [q, upd_same] at z
      cases z
    rw [off n]
    exact s _ _ e
theorem Copying.all {K : PySem.W.Frag} {H G : Hp} {D : Addr} {ds : List PyData} (hD : H D = none) (c : Copying K H D ds ds.length G) : ∃ acc, G D = some (.lst acc) ∧ DpAll K (newer H G) acc ds := by
  obtain ⟨⟨acc, ea, _, ed⟩, sm⟩ := c
  rw [List.take_length] at ed
  refine ⟨acc, ea, DpAll.same (newer_mono (fun b z => ?_) fun b _ o e => e) _ _ ed⟩
  by_cases n : b = D
  · rw [n]
    exact hD
  · rw [upd_ne n] at z
    exact z
/-- copied(x), x data at most n deep: the same data on new addresses -/
def spCopy (K : PySem.W.Frag) (n : Nat) : Sp := fun vs H Q _ => ∃ (x : V) (d : PyData), vs = [x] ∧ Dp K H x d ∧ fit n d = true ∧ ∀ (y : V) (H' : Hp), Same H H' → Dp K (newer H H') y d → Q y H'
def spPrev (K : PySem.W.Frag) : Nat → Sp
  | 0 => fun _ _ _ _ => False
  | n + 1 => spCopy K n
/-- how the rest of such a def is told of a scalar -/
theorem dp_newer {K : PySem.W.Frag} {H G : Hp} {x : V} {d : PyData} (h : Dp K H x d) (n1 : ∀ ds, d ≠ .list ds) (n2 : ∀ ds, d ≠ .tuple ds) : Dp K G x d := by
  cases h with
  | non => exact .non
  | bl b => exact .bl b
  | int i => exact .int i
  | str z => exact .str z
  | lst => exact absurd rfl (n1 _)
  | tup => exact absurd rfl (n2 _)
end VG

set_option maxRecDepth 100000
/-! Own errors: an __init__ that calls super().__init__('..'), keeps copies of what it got, then the name of its class as its code. -/
namespace VG
open PySem PySem.Spec PyProof.Rows L2
/-- without what is told by a property alone -/
def nox (H : Hp) : Hp := fun b => match H b with
  | some (.ext _) => none
  | o => o
theorem nox_of {H : Hp} {b : Addr} {o : HO} (h : H b = some o) (n : ∀ φ, o ≠ .ext φ) : nox H b = some o := by
  unfold nox
  rw [h]
  cases o <;> first | rfl | exact absurd rfl (n _)
theorem of_nox {H : Hp} {b : Addr} {o : HO} (h : nox H b = some o) : H b = some o ∧ ∀ φ, o ≠ .ext φ := by
  unfold nox at h
  cases e : H b with
  | none =>
    rw [e] at h
    cases h
  | some u =>
    rw [e] at h
    cases u <;> cases h <;> exact ⟨rfl, fun φ z => by cases z⟩
theorem SqL.nox {K : PySem.W.Frag} {H : Hp} {a : Addr} {xs : List V} (h : SqL K H a xs) : SqL K (VG.nox H) a xs := by
  rcases h with (h | ⟨o, h⟩) | h
  · exact .inl (.inl (nox_of h fun _ z => by cases z))
  · exact .inl (.inr ⟨o, nox_of h fun _ z => by cases z⟩)
  · exact .inr h
theorem SqT.nox {K : PySem.W.Frag} {H : Hp} {a : Addr} {xs : List V} (h : SqT K H a xs) : SqT K (VG.nox H) a xs := by
  rcases h with (h | ⟨o, h⟩) | h
  · exact .inl (.inl (nox_of h fun _ z => by cases z))
  · exact .inl (.inr ⟨o, nox_of h fun _ z => by cases z⟩)
  · exact .inr h
mutual
theorem Dp.nox {K : PySem.W.Frag} {H : Hp} : ∀ (d : PyData) (v : V), Dp K H v d → Dp K (VG.nox H) v d
  | .none, _, h => by cases h; exact .non
  | .bool b, _, h => by cases h; exact .bl b
  | .int i, _, h => by cases h; exact .int i
  | .str x, _, h => by cases h; exact .str x
  | .list ds, _, h => by
    cases h with
    | lst hs hd => exact .lst (SqL.nox hs) (DpAll.nox ds _ hd)
  | .tuple ds, _, h => by
    cases h with
    | tup hs hd => exact .tup (SqT.nox hs) (DpAll.nox ds _ hd)
  | .dict _, _, h => by cases h
theorem DpAll.nox {K : PySem.W.Frag} {H : Hp} : ∀ (ds : List PyData) (vs : List V), DpAll K H vs ds → DpAll K (VG.nox H) vs ds
  | [], _, h => by cases h; exact .nil
  | d :: ds, _, h => by
    cases h with
    | cons h t => exact .cons (Dp.nox d _ h) (DpAll.nox ds _ t)
end
/-- fields and the data that they hold -/
def FlOk (K : PySem.W.Frag) (H : Hp) (fs : List (Str × V)) (FL : List (Str × PyData)) : Prop := fs.map (·.1) = FL.map (·.1) ∧ DpAll K H (fs.map (·.2)) (FL.map (·.2))
theorem FlOk.nil {K : PySem.W.Frag} {H : Hp} : FlOk K H [] [] := ⟨rfl, .nil⟩
theorem FlOk.cons {K : PySem.W.Frag} {H : Hp} {fs : List (Str × V)} {FL : List (Str × PyData)} {f : Str} {v : V} {d : PyData} (h : Dp K H v d) (t : FlOk K H fs FL) : FlOk K H ((f, v) :: fs) ((f, d) :: FL) :=
  ⟨congrArg (f :: ·) t.1, .cons h t.2⟩
theorem FlOk.same {K : PySem.W.Frag} {H H' : Hp} {fs : List (Str × V)} {FL : List (Str × PyData)} (e : Same H H') (t : FlOk K H fs FL) : FlOk K H' fs FL := ⟨t.1, DpAll.same e _ _ t.2⟩
theorem FlOk.len {K : PySem.W.Frag} {H : Hp} {fs : List (Str × V)} {FL : List (Str × PyData)} (t : FlOk K H fs FL) : fs.length = FL.length := by
  have z := congrArg List.length t.1
  rw [List.length_map, List.length_map] at z
  exact z
theorem FlOk.get {K : PySem.W.Frag} {H : Hp} {f : Str} {d : PyData} : ∀ {fs : List (Str × V)} {FL : List (Str × PyData)}, FlOk K H fs FL → FL.lookup f = some d → ∃ v, fs.lookup f = some v ∧ Dp K H v d
  | [], [], _, h => by cases h
  | (g, v) :: fs, (g', e) :: FL, ⟨h1, h2⟩, h => by
    have h1 := List.cons.inj h1
    have eg : g = g' := h1.1
    subst eg
    have h2 : DpAll K H (v :: fs.map (·.2)) (e :: FL.map (·.2)) := h2
    cases h2 with
    | cons hv ht =>
      rw [List.lookup_cons] at h ⊢
      cases q : f == g with
      | true =>
        rw [q] at h
        cases h
        exact ⟨v, rfl, hv⟩
      | false =>
        rw [q] at h
        exact FlOk.get ⟨h1.2, ht⟩ h
  | [], _ :: _, ⟨h, _⟩, _ => by cases h
  | _ :: _, [], ⟨h, _⟩, _ => by cases h
/-- an error at a is being made: H behind super().__init__, G now, FL what it holds (the last first) -/
structure Stg (K : PySem.W.Frag) (H : Hp) (a C : Addr) (FL : List (Str × PyData)) (G : Hp) : Prop where
  ex : ∃ fs, FlOk K (nox (newer H G)) fs FL ∧ ((FL = [] ∧ G a = some (exo a C none)) ∨ ∃ dx, H dx = none ∧ dx ≠ a ∧ G a = some (exo a C (some dx)) ∧ G dx = some (exd dx fs))
  but : ∀ b o, b ≠ a → H b = some o → G b = some o
  at_ : (H a).isSome = true
section
variable {K : PySem.W.Frag} {H G G1 : Hp} {a C : Addr} {FL : List (Str × PyData)}
theorem Stg.start (h : H a = some (exo a C none)) : Stg K H a C [] H := ⟨⟨[], .nil, .inl ⟨rfl, h⟩⟩, fun _ _ _ e => e, by rw [h]; rfl⟩
theorem Stg.on (s : Stg K H a C FL G) (sm : Same G G1) : Stg K H a C FL G1 := by
  obtain ⟨⟨fs, hf, hx⟩, but, ha⟩ := s
  refine ⟨⟨fs, hf.same fun b o e => ?_, ?_⟩, fun b o n e => sm _ _ (but b o n e), ha⟩
  · obtain ⟨e1, e2⟩ := of_nox e
    exact nox_of (newer_mono (fun _ z => z) (fun b _ o q => sm b o q) b o e1) e2
  · rcases hx with ⟨e1, e2⟩ | ⟨dx, h1, h2, h3, h4⟩
    · exact .inl ⟨e1, sm _ _ e2⟩
    · exact .inr ⟨dx, h1, h2, sm _ _ h3, sm _ _ h4⟩
theorem exo_ext {φ : HO} {e C : Addr} {d : Option Addr} (h : φ = exo e C d) : ∃ ψ, φ = .ext ψ := ⟨_, h⟩
/-- a field is stored -/
theorem Stg.store {σ : L2.St} {R : L2.St → Hp → Prop} {f : Str} {y : V} {d : PyData} (s : Stg K H a C FL G) (hy : Dp K (nox (newer H G)) y d) (hl : FL.length ≤ 900) (next : ∀ G', Stg K H a C ((f, d) :: FL) G' → R σ G') :
    (G a = some (exo a C none) ∧ ∀ dx, G dx = none → dx ≠ a → R σ (upd (upd G dx (exd dx [(f, y)])) a (exo a C (some dx)))) ∨
      ∃ (dx : Addr) (fs : List (Str × V)), G a = some (exo a C (some dx)) ∧ G dx = some (exd dx fs) ∧ fs.length ≤ 900 ∧ R σ (upd G dx (exd dx ((f, y) :: fs))) := by
  obtain ⟨⟨fs, hf, hx⟩, but, ha⟩ := s
  have nH : ∀ {b : Addr}, G b = none → b ≠ a → H b = none := fun {b} z n => by
    cases q : H b with
    | none => rfl
    | some o =>
      rw [but b o n q] at z
      cases z
  have nA : ∀ {b : Addr} {o : HO}, newer H G b = some o → b ≠ a := fun {b o} e z => by
    obtain ⟨u, hu⟩ := Option.isSome_iff_exists.mp ha
    rw [z, newer_none hu] at e
    cases e
  rcases hx with ⟨rfl, e2⟩ | ⟨dx, h1, h2, h3, h4⟩
  · refine .inl ⟨e2, fun dx hdx ne => next _ ⟨⟨[(f, y)], ?_, .inr ⟨dx, nH hdx ne, ne, upd_same, by rw [upd_ne ne, upd_same]⟩⟩, fun b o n e => ?_, ha⟩⟩
    · refine FlOk.cons (Dp.same (fun b o e => ?_) d y hy) .nil
      obtain ⟨e1, e3⟩ := of_nox e
      refine nox_of (newer_mono (fun _ z => z) (fun b _ o q => ?_) b o (H := H) (G := H) (H' := fun b => if b = a then none else G b) ?_) e3
      · have q : (if b = a then none else G b) = some o := q
        by_cases n : b = a
        · rw [if_pos n] at q
          cases q
        · rw [if_neg n] at q
          rw [upd_ne n, upd_ne (ne_of_none q hdx)]
          exact q
      · have n := nA e1
        have z := newer_sub b o e1
        cases w : H b with
        | none =>
          rw [newer_at w, if_neg n]
          exact z
        | some u =>
          rw [newer_none w] at e1
          cases e1
    · rw [upd_ne n]
      have z := but b o n e
      rw [upd_ne (ne_of_none z hdx)]
      exact z
  · refine .inr ⟨dx, fs, h3, h4, by rw [hf.len]; exact hl, next _ ⟨⟨(f, y) :: fs, ?_, .inr ⟨dx, h1, h2, by rw [upd_ne (Ne.symm h2)]; exact h3, upd_same⟩⟩, fun b o n e => ?_, ha⟩⟩
    · have sm : Same (nox (newer H G)) (nox (newer H (upd G dx (exd dx ((f, y) :: fs))))) := fun b o e => by
        obtain ⟨e1, e3⟩ := of_nox e
        have z := newer_sub b o e1
        have nd : b ≠ dx := fun q => by
          rw [q, h4] at z
          exact e3 _ (Option.some.inj z).symm
        refine nox_of ?_ e3
        cases w : H b with
        | none =>
          rw [newer_at w, upd_ne nd]
          exact z
        | some u =>
          rw [newer_none w] at e1
          cases e1
      exact FlOk.cons (Dp.same sm d y hy) (hf.same sm)
    · have z := but b o n e
      rw [upd_ne (ne_of_none e h1)]
      exact z
end
/-! ### the statements of such an __init__ behind super().__init__('..') -/
/-- self.f = copied(par) for each field and the slot of its parameter, then self.code = self.__class__.__name__ -/
inductive IniSts (ps : List Str) : List (Str × Nat) → List Stmt → Prop where
  | code {x : Str} {p1 p2 p3 p4 p5 p6 : Pos} (h : ps[0]? = some x) : IniSts ps [] [.Assign [.Attribute (.Name x p1) "code" p2] (.Attribute (.Attribute (.Name x p3) "__class__" p4) "__name__" p5) p6]
  | fld {x y f : Str} {i : Nat} {l : List (Str × Nat)} {ss : List Stmt} {p1 p2 p3 p4 p5 p6 : Pos} (h : ps[0]? = some x) (hy : ps[i]? = some y) (t : IniSts ps l ss) :
      IniSts ps ((f, i) :: l) (.Assign [.Attribute (.Name x p1) f p2] (.Call (.Name "copied" p3) [.Name y p4] [] p5) p6 :: ss)
/-- what stands in the parameters' slots -/
def Args (K : PySem.W.Frag) (n : Nat) (σ : L2.St) (H : Hp) : List (Str × Nat) → List PyData → Prop
  | [], [] => True
  | p :: l, d :: ds => (∃ x, σ[p.2]? = some (some x) ∧ Dp K (nox H) x d ∧ fit n d = true) ∧ Args K n σ H l ds
  | _, _ => False
/-- the fields behind them, the last first -/
def after : List (Str × Nat) → List PyData → List (Str × PyData) → List (Str × PyData)
  | p :: l, d :: ds, FL => after l ds ((p.1, d) :: FL)
  | _, _, FL => FL
def tIni (K : PySem.W.Frag) (C : Addr) (nm : Str) (n : Nat) (l : List (Str × Nat)) : TS := fun D σ G => ∃ (H : Hp) (a : Addr) (FL : List (Str × PyData)) (rs : List PyData), σ[0]? = some (some (.ref a)) ∧ H a = some (exo a C none) ∧ Stg K H a C FL G ∧
  Args K n σ H l rs ∧ FL.length + l.length ≤ 100 ∧ ∀ G', Stg K H a C (("code", .str nm) :: after l rs FL) G' → D.nx σ G'
section
variable {X : Cx} {C fC : Addr} {fdC : FuncData} {k n : Nat} {nm : Str}
/-- an own error's class, as its __init__ needs it -/
structure IniC (K : PySem.W.Frag) (C : Addr) (nm : Str) : Prop where
  oex : OexC K C
  cls : ClsTxt K C nm
  own : OwnX K C
theorem pss_ini (hX : ∀ x i p, X.N[i]? = some x → PE X (.Name x p) (tVar i)) (T : IniC X.K C nm) (GC : FnOk X.prog X.w X.K X.mg X.base CX0 k fC fdC ["value"] (spCopy X.K n)) (hr : Room k X.A) (hg : Gl X "copied") (mC : X.mg "copied" = some (.ref fC))
    (hk : PySem.W.keepIn X.K (.ref fC) = true) (bC : L2.Binds X.K fdC ["value"] []) :
    ∀ {l : List (Str × Nat)} {ss : List Stmt}, (∀ p ∈ l, p.1 ∈ exFields) → IniSts X.N l ss → PSs X ss (tIni X.K C nm n l) := by
  intro l ss hf hs
  induction hs with
  | code h =>
    refine ⟨fun pins s σ H D I hh => (pss_one (ps_ost (hX _ 0 _ h) (pe_clsName (hX _ 0 _ h)))).run pins s σ H D I ?_⟩
    obtain ⟨H0, a, FL, rs, h0, hae, st, ha, hl, q⟩ := hh
    have ex : H a = some (exo a C none) ∨ ∃ (dx : Addr) (fs : List (Str × V)), H a = some (exo a C (some dx)) ∧ H dx = some (exd dx fs) := by
      obtain ⟨fs, _, ⟨_, e⟩ | ⟨dx, _, _, e1, e2⟩⟩ := st.ex
      · exact .inl e
      · exact .inr ⟨dx, fs, e1, e2⟩
    refine ⟨_, h0, a, C, nm, rfl, T.cls, ex, _, h0, a, C, rfl, T.oex, T.own.no _ (by decide), ?_⟩
    refine st.store (R := D.nx) (.str nm) (by have := hl; simp at this; omega) fun G' s' => q G' ?_
    match rs, ha with
    | [], _ => exact s'
  | @fld x y f i l ss p1 p2 p3 p4 p5 p6 h hy t ih =>
    have ih := ih fun p hp => hf p (List.mem_cons_of_mem _ hp)
    refine ⟨fun pins s σ H D I hh => (pss_cons (ps_ost (hX _ 0 _ h) (pe_call GC hr hg mC hk bC .nil pass0 (pa_cons (hX _ i _ hy) pa_nil))) ih).run pins s σ H D I ?_⟩
    obtain ⟨H0, a, FL, rs, h0, hae, st, ha, hl, q⟩ := hh
    match rs, ha with
    | d :: rs, ⟨⟨x, hx, hd, hfit⟩, ha⟩ =>
      have noxH : Same (nox H0) H := fun b o e => by
        obtain ⟨e1, e2⟩ := of_nox e
        refine st.but b o (fun z => ?_) e1
        rw [z, hae] at e1
        exact e2 _ (Option.some.inj e1).symm
      refine ⟨x, hx, x, d, rfl, Dp.same noxH d x hd, hfit, fun y G1 sm hy' => ⟨_, h0, a, C, rfl, T.oex, T.own.no _ (hf (f, i) List.mem_cons_self), ?_⟩⟩
      have st1 := st.on sm
      have hy2 : Dp X.K (nox (newer H0 G1)) y d := by
        refine Dp.nox d y (Dp.same (newer_mono (fun b z => ?_) fun _ _ _ e => e) d y hy')
        cases w : H0 b with
        | none => rfl
        | some o =>
          by_cases nb : b = a
          · obtain ⟨fs, _, ⟨_, e⟩ | ⟨dx, _, _, e1, e2⟩⟩ := st.ex
            · rw [nb, e] at z
              cases z
            · rw [nb, e1] at z
              cases z
          · rw [st.but b o nb w] at z
            cases z
      have hl : FL.length + (l.length + 1) ≤ 100 := hl
      refine st1.store (R := (_ : Ends).nx) hy2 (by omega) fun G' s' => ?_
      exact ⟨H0, a, (f, d) :: FL, rs, h0, hae, s', ha, by show FL.length + 1 + l.length ≤ 100; omega, q⟩
end
end VG
namespace VG
open PySem PySem.Spec PyProof.Rows L2
/-- __init__ of an own error: what it leaves -/
def spErr (K : PySem.W.Frag) (C : Addr) (nm : Str) (n m : Nat) (l : List (Str × Nat)) : Sp := fun vs H Q _ => ∃ (a : Addr) (xs : List V) (rs : List PyData), vs = .ref a :: xs ∧ vs.length = m ∧ H a = some (exo a C none) ∧ Args K n (vs.map some) H l rs ∧ l.length ≤ 100 ∧
  ∀ G', Stg K H a C (("code", .str nm) :: after l rs []) G' → Q .non G'
section
variable {P : Program} {w : World} {K : PySem.W.Frag} {mg : Str → Option Value} {base : Heap} {B i newId : String} {bmB : List Value} {C f cc cda fC : Addr} {qual : Str} {params : Arguments} {rest : List Stmt} {sc : Scope} {fd fdC : FuncData} {ps : List Str} {p0 p1 p2 p3 p4 p5 : Pos} {j k n : Nat} {z nm : Str} {self : Arg} {l : List (Str × Nat)}
theorem ok_ini (hev : SupEv p0 p1 p2 p3 p4 j z) (T : IniTxt P K mg B i newId bmB C f cc cda qual params (superInit p0 p1 p2 p3 p4 p5 j z :: rest) sc fd) (S : IniScope ps sc) (hself : (params.posonlyargs ++ params.args).head? = some self) (hp0 : ps[0]? = some self.arg)
    (TC : IniC K C nm) (GC : FnOk P w K mg base CX0 k fC fdC ["value"] (spCopy K n)) (hg : sc.names.lookup ("copied" : Str) = some .globalImplicit) (mC : mg "copied" = some (.ref fC)) (hk : PySem.W.keepIn K (.ref fC) = true) (bC : L2.Binds K fdC ["value"] [])
    (hps : ∀ x ∈ ps, (x == ("__debug__" : Str)) = false ∧ (x == ("__classdict__" : Str)) = false) (hf : ∀ p ∈ l, p.1 ∈ exFields) (hs : IniSts ps l rest) : FnOk P w K mg base CX0 (k + 1) f fd ps (spErr K C nm n ps.length l) := by
  refine ini_ok hev T S hself hp0 (fun vs H Q E h => ?_) fun A outer s H vs Q E hr h => ?_
  · obtain ⟨_, _, _, _, e, _⟩ := h
    exact e
  · obtain ⟨a, xs, rs, rfl, hl, hea, ha, hn, q⟩ := h
    refine ⟨a, xs, rfl, hea, _, pss_ini (X := iniCx P w K mg base ps qual sc f cda cc A outer s H) (C := C) (nm := nm) (n := n) (fun x i p hx => pe_var hx (.inl (S.par x (List.mem_of_getElem? hx))) (hps x (List.mem_of_getElem? hx)).1 (hps x (List.mem_of_getElem? hx)).2) TC GC hr hg mC hk bC hf hs, ?_⟩
    exact ⟨H, a, [], rs, rfl, hea, Stg.start hea, ha, by show 0 + l.length ≤ 100; omega, q⟩
end
end VG

set_option maxRecDepth 100000
/-! An own error is made and raised: what its class and its dict tell behind that. -/
namespace VG
open PySem PySem.Spec PyProof.Rows L2
/-- the dict of an error: its fields, the last first -/
def ErrD (K : PySem.W.Frag) (H : Hp) (dd : Addr) (FL : List (Str × PyData)) : Prop := ∃ fs, H dd = some (.xd fs) ∧ FlOk K H fs FL
theorem ErrD.same {K : PySem.W.Frag} {H H' : Hp} {dd : Addr} {FL : List (Str × PyData)} (e : Same H H') (h : ErrD K H dd FL) : ErrD K H' dd FL := by
  obtain ⟨fs, h1, h2⟩ := h
  exact ⟨fs, e _ _ h1, h2.same e⟩
def slots : Nat → List Str → List (Str × Nat)
  | _, [] => []
  | i, f :: fs => (f, i) :: slots (i + 1) fs
theorem slots_len : ∀ {i : Nat} {l : List Str}, (slots i l).length = l.length
  | _, [] => rfl
  | i, _ :: l => congrArg (· + 1) (slots_len (i := i + 1) (l := l))
theorem args_of {K : PySem.W.Frag} {n : Nat} {H : Hp} : ∀ {vs : List V} {ds : List PyData} {flds : List Str} {pre : List (Option V)}, DpAll K (nox H) vs ds → (∀ d ∈ ds, fit n d = true) → flds.length = vs.length → Args K n (pre ++ vs.map some) H (slots pre.length flds) ds
  | [], [], [], _, _, _, _ => trivial
  | v :: vs, d :: ds, f :: flds, pre, .cons h t, hf, hl => by
    refine ⟨⟨v, ?_, h, hf d List.mem_cons_self⟩, ?_⟩
    · show (pre ++ (some v :: vs.map some))[pre.length]? = _
      rw [List.getElem?_append_right (Nat.le_refl _), Nat.sub_self]
      rfl
    · have q := args_of (pre := pre ++ [some v]) t (fun d hd => hf d (List.mem_cons_of_mem _ hd)) (Nat.succ.inj hl)
      rw [List.length_append, List.append_assoc] at q
      exact q
/-- what is wished of C(vs ..), C an own error with the fields flds -/
theorem mk_err {K : PySem.W.Frag} {C : Addr} {nm : Str} {n m : Nat} {flds : List Str} {H1 : Hp} {vs : List V} {ds : List PyData} {Q : XK} (hm : flds.length + 1 = m) (hl : flds.length = vs.length) (h100 : flds.length ≤ 100) (hv : DpAll K H1 vs ds) (hf : ∀ d ∈ ds, fit n d = true)
    (q : ∀ (dd : Addr) (H' : Hp), Same H1 H' → ErrD K H' dd (("code", .str nm) :: after (slots 1 flds) ds []) → Q (.ref C) (some dd) H') :
    vs.length ≤ 1000 ∧ ∀ a, H1 a = none → spErr K C nm n m (slots 1 flds) (.ref a :: (vs ++ [])) (upd H1 a (exo a C none))
      (fun v H2 => v = .non ∧ ∃ (d : Addr) (fs : List (Str × V)), H2 a = some (exo a C (some d)) ∧ H2 d = some (exd d fs) ∧ H1 d = none ∧ Q (.ref C) (some d) (upd (del H2 a) d (.xd fs))) (fun _ _ _ => False) := by
  refine ⟨by omega, fun a ha => ?_⟩
  rw [List.append_nil]
  have sm1 : Same (nox H1) (nox (upd H1 a (exo a C none))) := fun b o e => by
    obtain ⟨e1, e2⟩ := of_nox e
    exact nox_of (by rw [upd_ne (ne_of_none e1 ha)]; exact e1) e2
  refine ⟨a, vs, ds, rfl, by show vs.length + 1 = m; omega, upd_same, args_of (pre := [some (.ref a)]) (DpAll.same sm1 _ _ (DpAll.nox _ _ hv)) hf hl, by rw [slots_len]; exact h100, fun G' st => ⟨rfl, ?_⟩⟩
  obtain ⟨⟨fs, hF, ⟨z, _⟩ | ⟨dx, h1, h2, h3, h4⟩⟩, but, _⟩ := st
  · cases z
  · have hd1 : H1 dx = none := by
      rw [upd_ne h2] at h1
      exact h1
    refine ⟨dx, fs, h3, h4, hd1, q dx _ (fun b o e => ?_) ⟨fs, upd_same, hF.same fun b o e => ?_⟩⟩
    · have na := ne_of_none e ha
      rw [upd_ne (ne_of_none e hd1), del_ne na]
      exact but b o na (by rw [upd_ne na]; exact e)
    · obtain ⟨e1, e2⟩ := of_nox e
      have z := newer_sub b o e1
      have nd : b ≠ dx := fun y => by
        rw [y, h4] at z
        exact e2 _ (Option.some.inj z).symm
      have na : b ≠ a := fun y => by
        rw [y, newer_none upd_same] at e1
        cases e1
      rw [upd_ne nd, del_ne na]
      exact z
/-- an own error's class C, called by its name: its __init__ keeps its promise -/
structure ErrC (P : Program) (w : World) (K : PySem.W.Frag) (mg : Str → Option Value) (base : Heap) (nm : Str) (flds : List Str) (C : Addr) (k n : Nat) : Prop where
  ini : IniC K C nm
  glob : mg nm = some (.ref C)
  few : flds.length ≤ 100
  run : ∃ (f : Addr) (fd : FuncData) (ps : List Str), PySem.W.findIn K (.ref C) "__init__" = some (some (.ref f)) ∧ PySem.W.typeIn K (.ref f) = some (.type "function") ∧ L2.Binds K fd ps [] ∧ FnOk P w K mg base CX0 k f fd ps (spErr K C nm n (flds.length + 1) (slots 1 flds))
/-- raise C(e ..); its reading is closed by mk_err -/
def tErr (K : PySem.W.Frag) (C : Addr) (nm : Str) (flds : List Str) (n : Nat) (W : WX) (ta : TA) : TS := fun _ σ H => tMkO C (spErr K C nm n (flds.length + 1) (slots 1 flds)) [] ta σ H fun cls d H' => W cls d σ H'
section
variable {X : Cx} {nm : Str} {flds : List Str} {C : Addr} {k n : Nat} {W : WX} {e : Expr} {es : List Expr} {ta : TA} {p pos pos2 : Pos}
theorem ps_err (T : ErrC X.prog X.w X.K X.mg X.base nm flds C k n) (hc : X.calm = true) (tk : Takes X W) (hr : Room (k + 1) X.A) (hg : Gl X nm) (ha : PA X (e :: es) ta) (n1 : (nm == ("__debug__" : Str)) = false := by decide)
    (n2 : starEach (e :: es) X.env = (false, eval e X.env) :: starEach es X.env := by rfl) (n3 : (backTo pos (starEach es X.env)).any (·.1) = false := by rfl) :
    PS X (.Raise (some (.Call (.Name nm p) (e :: es) [] pos)) none pos2) (tErr X.K C nm flds n W ta) := by
  obtain ⟨f, fd, ps, h1, h2, h3, h4⟩ := T.run
  exact ps_raise hc tk (pmk_oex T.ini.oex h1 h2 h4 hr h3 .nil pass0 hg T.glob ha n1 n2 n3)
end
end VG

set_option maxRecDepth 100000
/-! A def whose code object is known (lambdas are made in it); what a lambda's body may let out. -/
namespace VG
open PySem PySem.Spec PyProof.Rows L2 LamX
section
variable {P : Program} {w : World} {K : PySem.W.Frag} {mg : Str → Option Value} {base : Heap}
theorem okGC {x qual : Str} {st : Stmt} {f c : Addr} {fd : FuncData} {N ps : List Str} {k : Nat} {sp : Sp} (F : Fun K x qual st f fd) (S : FnScope N ps (defScope st)) (hc : fd.code = .ref c) (many : ∀ vs H Q E, sp vs H Q E → vs.length = ps.length)
    (body : ∀ (A : Around) (outer : List Env) (s : Shared) (H : Hp) (vs : List V) (Q : VK) (E : XK), A.guards = some [] → Room k (A.deeper (envOfC qual (defScope st) s.heap.objs.size f (.ref c))) → sp vs H Q E →
      ∃ t, PSs (cxOf CX0 P w K mg base N qual (defScope st) f (.ref c) A outer s H E).nox (defBody st) t ∧
        t { nx := fun _ H' => Q .non H', rt := Q } (L2.start N vs) H) : FnG P w K mg base CX0 (k + 1) f fd ps sp := by
  obtain ⟨oc, od, kV, doc, pm, an, cdv, ct, osl, rfl, lk, hcd⟩ := F.ex
  obtain rfl : cdv = .ref c := hc
  refine ⟨many, fun A outer s H args us vs Q E hG hr e0 hb r q => LamX.run_ofS lk hcd S hr e0 hb r (many _ _ _ _ q) fun hr' => ?_⟩
  obtain ⟨t, h1, h2⟩ := body A outer s H vs Q E hG hr' q
  exact ⟨t, h1.nox, h2⟩
end
theorem lam_passes {X : Cx} {A : Around} {outer : List Env} {s : Shared} {H : Hp} {E : XK} {scope : Scope} {f c' : Addr} : Passes (L2.CX X.prog X.w) (lamCx X A outer s H E scope f c') E := passes_call (W := fun cls d _ H => E cls d H) (takes_of rfl rfl rfl rfl) fun _ _ _ _ h => h
/-- a call that lets nothing out, of a def that may -/
theorem passF {X : Cx} {P : Program} {w : World} : Passes (L2.CX P w) X (fun _ _ _ => False) := fun _ _ _ _ _ _ _ ⟨_, _, _, _, _, _, _, _, _, _, _, _, h⟩ => h.elim
/-- sequences alone -/
def seqs (H : Hp) : Hp := fun b => match H b with
  | some (.lst xs) => some (.lst xs)
  | some (.tup xs) => some (.tup xs)
  | some (.frz o (.lst xs)) => some (.frz o (.lst xs))
  | some (.frz o (.tup xs)) => some (.frz o (.tup xs))
  | _ => none
theorem seqs_sub {H : Hp} {b : Addr} {o : HO} (h : seqs H b = some o) : H b = some o ∧ ∀ ps, o ≠ .tbl ps := by
  unfold seqs at h
  split at h <;> first | (rename_i e; cases h; exact ⟨e, fun _ z => by cases z⟩) | cases h
mutual
theorem Dp.seqs {K : PySem.W.Frag} {H : Hp} : ∀ (d : PyData) (v : V), Dp K H v d → Dp K (VG.seqs H) v d
  | .none, _, h => by cases h; exact .non
  | .bool b, _, h => by cases h; exact .bl b
  | .int i, _, h => by cases h; exact .int i
  | .str x, _, h => by cases h; exact .str x
  | .list ds, _, h => by
    cases h with
    | lst hs hd =>
      refine .lst ?_ (DpAll.seqs ds _ hd)
      rcases hs with (e | ⟨o, e⟩) | e
      · exact .inl (.inl (by unfold VG.seqs; rw [e]))
      · exact .inl (.inr ⟨o, by unfold VG.seqs; rw [e]⟩)
      · exact .inr e
  | .tuple ds, _, h => by
    cases h with
    | tup hs hd =>
      refine .tup ?_ (DpAll.seqs ds _ hd)
      rcases hs with (e | ⟨o, e⟩) | e
      · exact .inl (.inl (by unfold VG.seqs; rw [e]))
      · exact .inl (.inr ⟨o, by unfold VG.seqs; rw [e]⟩)
      · exact .inr e
  | .dict _, _, h => by cases h
theorem DpAll.seqs {K : PySem.W.Frag} {H : Hp} : ∀ (ds : List PyData) (vs : List V), DpAll K H vs ds → DpAll K (VG.seqs H) vs ds
  | [], _, h => by cases h; exact .nil
  | d :: ds, _, h => by
    cases h with
    | cons h t => exact .cons (Dp.seqs d _ h) (DpAll.seqs ds _ t)
end
/-- data stand where tables alone have grown -/
theorem Dp.grown {K : PySem.W.Frag} {H H' : Hp} {d : PyData} {v : V} (e : ExtN H H') (h : Dp K H v d) : Dp K H' v d := Dp.same (fun b o z => e b o (seqs_sub z).1 (seqs_sub z).2) d v (Dp.seqs d v h)
end VG

set_option maxRecDepth 100000
/-! Plain calls of defs with a star parameter. -/
namespace VG
open PySem PySem.Spec PyProof.Rows L2
section
variable {X : Cx} {CX : CXT} {k : Nat} {f : Addr} {sp : Sp} {E : XK} {x : Str} {p pos : Pos} {e : Expr} {es : List Expr} {t : TA}
theorem pe_callR (F : FnR X.prog X.w X.K X.mg X.base CX k f sp) (hr : Room k X.A) (hk : PySem.W.keepIn X.K (.ref f) = true) (hg : Gl X x) (hm : X.mg x = some (.ref f)) (hx : Passes CX X E) (ha : PA X (e :: es) t) (n1 : (x == ("__debug__" : Str)) = false := by decide)
    (n2 : starEach (e :: es) X.env = (false, eval e X.env) :: starEach es X.env := by rfl) (n3 : (backTo pos (starEach es X.env)).any (·.1) = false := by rfl) : PE X (.Call (.Name x p) (e :: es) [] pos) (fun σ H Q => t σ H fun vs H1 => sp vs H1 Q E) :=
  ⟨fun pins s σ H Q I q0 => wpAny_Call_Name_kw (ld_glob I hg hm (PySem.W.callWith_K (h₀ := X.base) I.ok.mod.kin hk (thn (ha.run pos pins s σ H _ I q0) fun us s1 ⟨vs, H1, I1, r, q⟩ => ⟨I1.kIn, wpAny_call (codeAny_mono (run_fnR F hr hx I1 r q) fun res s' z => z)⟩) n2 n3) n1)⟩
theorem pe_callR0 (F : FnR X.prog X.w X.K X.mg X.base CX k f sp) (hr : Room k X.A) (hk : PySem.W.keepIn X.K (.ref f) = true) (hg : Gl X x) (hm : X.mg x = some (.ref f)) (hx : Passes CX X E) (n1 : (x == ("__debug__" : Str)) = false := by decide) :
    PE X (.Call (.Name x p) [] [] pos) (fun σ H Q => sp [] H Q E) :=
  ⟨fun pins s σ H Q I q0 => wpAny_Call_Name_kw (ld_glob I hg hm (PySem.W.callWith_K0 I.kIn hk (wpAny_call (codeAny_mono (run_fnR (us := []) F hr hx I .nil q0) fun res s' z => z))) n1)⟩
end
end VG

set_option maxRecDepth 100000
/-! A hook that knows cStatics, and tells the __init__ of errors (whose closure holds their class). -/
namespace VG
open PySem PySem.Spec PyProof.Rows L2
open He (ba Fa DefD Tab Defn AlX)
def asI (g : Addr → Option Obj) (n : Nat) : List Addr := He.asD g n ++ [cStatics]
abbrev FnI : Type := Option (Str × Str × Arguments × FuncBody × Scope × Addr × List Str × Addr)
def fnI (K : PySem.W.Frag) (p : Str × Option Str) : FnI := match K.lookup (He.fAd K p) with
  | some ⟨_, _, .func fd, _⟩ => some (fd.name, fd.qualname, fd.params, fd.body, fd.scope, fd.globals, fd.closure.map (·.1), fd.builtins)
  | _ => none
/-- an error's __init__, as it is written -/
structure IniD where
  cls : Str
  st : Stmt
def IniD.at_ (d : IniD) : Str × Option Str := (d.cls, some "__init__")
def IniD.qual (d : IniD) : Str := d.cls ++ ".__init__"
def IniD.val (d : IniD) : FnI := some ("__init__", d.qual, defArgs d.st, .stmts (defBody d.st), defScope d.st, mainGlobals, ["__class__"], builtinsNs)
abbrev AlI : Type := AlX × List FnI
section
variable {n : Nat} {fa : List Fa} {fn : List DefD} {tf : List Defn} {ex : PySem.W.Frag → Bool} {ins : List IniD}
def obsI (n : Nat) (fa : List Fa) (fn : List DefD) (tf : List Defn) (ex : PySem.W.Frag → Bool) (ins : List IniD) (g : Addr → Option Obj) : AlI :=
  ((He.obsT fa fn [] (He.frT g (asI g n)), ex (He.frT g (asI g n)) && He.tabsB g tf (He.frT g (asI g n))), ins.map fun d => fnI (He.frT g (asI g n)) d.at_)
structure SaysI (fa : List Fa) (fn : List DefD) (tf : List Defn) (ex : PySem.W.Frag → Bool) (ins : List IniD) (w : World) (h : Heap) (K : PySem.W.Frag) : Prop where
  x : He.SaysX fa fn [] tf ex w h K
  ini : ∀ d ∈ ins, fnI K d.at_ = d.val
theorem saysI_of {w : World} {h : Heap} (e : obsI n fa fn tf ex ins h.get? = (He.valX fn [] w, ins.map IniD.val)) : SaysI fa fn tf ex ins w h (He.frT h.get? (asI h.get? n)) := by
  generalize hK : He.frT h.get? (asI h.get? n) = K at *
  have e1 : He.obsT fa fn [] K = He.valT fn [] w := by
    have z := congrArg (fun z : AlI => z.1.1) e
    unfold obsI at z
    rw [hK] at z
    exact z
  have e2 : (ex K && He.tabsB h.get? tf K) = true := by
    have z := congrArg (fun z : AlI => z.1.2) e
    unfold obsI at z
    rw [hK] at z
    exact z
  have e3 : (ins.map fun d => fnI K d.at_) = ins.map IniD.val := by
    have z := congrArg (fun z : AlI => z.2) e
    unfold obsI at z
    rw [hK] at z
    exact z
  obtain ⟨h1, h2⟩ := ba e2
  have tabs : ∀ p ∈ tf, PySem.W.codeHdIn K (He.cT K p).1 (He.cT K p).2 = true ∧ ∃ o, h.get? (He.cT K p).2 = some o ∧ He.emptyTab o = true := fun p hp => by
    obtain ⟨h3, h4⟩ := ba (List.all_eq_true.mp h2 p hp)
    match q : h.get? (He.cT K p).2 with
    | none =>
      rw [q] at h4
      cases h4
    | some o =>
      rw [q] at h4
      exact ⟨h3, o, rfl, h4⟩
  refine ⟨⟨e1, h1, fun p hp => (tabs p hp).1, fun p hp => ?_, fun p hp => ?_⟩, fun d hd => ?_⟩
  · obtain ⟨_, o, q, z⟩ := tabs p hp
    rw [← hK] at q ⊢
    exact He.frT_none q z
  · obtain ⟨_, o, q, z⟩ := tabs p hp
    rw [q, He.emptyTab_eq z]
  · exact List.map_inj_left.mp e3 d hd
def hookI (n : Nat) (fa : List Fa) (fn : List DefD) (tf : List Defn) (ex : PySem.W.Frag → Bool) (ins : List IniD) : PySem.W.Hook where
  α := AlI
  obs := fun s => obsI n fa fn tf ex ins s.heap.get?
  val := fun w => (He.valX fn [] w, ins.map IniD.val)
  says := fun w h => ∃ K : PySem.W.Frag, K.In h ∧ SaysI fa fn tf ex ins w h K
  of := fun _ _ e => ⟨_, He.frT_in, saysI_of e⟩
  keeps := fun _ _ _ ⟨K, hK, c⟩ k => ⟨K, PySem.W.Frag.In.keeps hK k, ⟨c.x.t, c.x.more, c.x.hd, c.x.out, fun p hp => k _ _ (c.x.empty p hp)⟩, c.ini⟩
theorem obsI_eq {g : Addr → Option Obj} {s : Shared} (h : ∀ a, g a = s.heap.get? a) : obsI n fa fn tf ex ins g = (hookI n fa fn tf ex ins).obs s := by
  have e : g = s.heap.get? := funext h
  rw [e] <;> rfl
end
end VG

set_option maxRecDepth 100000
/-! What the head is to tell of an own error, as a Bool. -/
namespace VG
open PySem PySem.Spec PyProof.Rows L2
def clsB (K : PySem.W.Frag) (C : Addr) (nm : Str) : Bool := match K.lookup C with
  | some ⟨.type t, _, .cls cd, sl⟩ => decide (t = "type") && (match cd.mro, sl.toList with
    | .ref C' :: bm, [_, _, some (.str z _), _, some (.builtin n), _] => decide (C' = C) && (decide (z = nm) && (decide (n = "ValueError.__new__") && (cd.hasDict && (!cd.hasDel && PySem.HandSPX.refsVE bm))))
    | _, _ => false)
  | _ => false
theorem clsB_ok {K : PySem.W.Frag} {C : Addr} {nm : Str} (h : clsB K C nm = true) : ∃ (name q : Str) (N : Addr) (bs bm : List Value) (sn : List Str) (sub : List Value) (ab : Bool) (col : Option Bool) (dd : Option Addr) (k0 k1 : Option Value) (tk : Tok) (k3 k5 : Option Value),
    K.lookup C = some (excClassObj name q C N bs bm true sn sub ab col dd k0 k1 (some (.str nm tk)) k3 k5 "ValueError.__new__") ∧ PySem.HandSPX.refsVE bm = true := by
  unfold clsB at h
  split at h
  · rename_i t dd cd sl e
    obtain ⟨h1, h2⟩ := Bool.and_eq_true_iff.mp h
    have ht : t = "type" := of_decide_eq_true h1
    split at h2
    · rename_i C' bm a0 a1 z tk a3 n a5 e1 e2
      simp only [Bool.and_eq_true, decide_eq_true_eq, Bool.not_eq_true'] at h2
      obtain ⟨g1, g2, g3, g4, g5, g6⟩ := h2
      subst ht g1 g2 g3
      obtain ⟨c1, c2, c3, c4, c5, c6, c7, c8, c9, c10, c11⟩ := cd
      have e1 : c3 = .ref C' :: bm := e1
      have g4 : c6 = true := g4
      have g5 : c11 = false := g5
      subst e1 g4 g5
      have es : sl = #[a0, a1, some (.str z tk), a3, some (.builtin "ValueError.__new__"), a5] := Array.toList_inj.mp e2
      subst es
      exact ⟨c1, c5, c4, c2, bm, c7, c8, c9, c10, dd, a0, a1, tk, a3, a5, e, g6⟩
    · cases h2
  · cases h
def nameB (K : PySem.W.Frag) (C : Addr) : Bool := match PySem.W.findCls K (.ref C) (.type "type") "__name__" with
  | some (.get g a o t) => decide (g = .builtin "getset_descriptor.__get__") && (decide (a = .builtin "type.__name__") && (decide (o = .ref C) && decide (t = .type "type")))
  | _ => false
theorem nameB_ok {K : PySem.W.Frag} {C : Addr} (h : nameB K C = true) : PySem.W.findCls K (.ref C) (.type "type") "__name__" = some (.get (.builtin "getset_descriptor.__get__") (.builtin "type.__name__") (.ref C) (.type "type")) := by
  unfold nameB at h
  split at h
  · rename_i g a o t e
    simp only [Bool.and_eq_true, decide_eq_true_eq] at h
    obtain ⟨h1, h2, h3, h4⟩ := h
    rw [e, h1, h2, h3, h4]
  · cases h
/-- an own error's class: all but its __init__ -/
def errB (K : PySem.W.Frag) (nm : Str) : Bool := clsB K (He.ga K nm) nm && (nameB K (He.ga K nm) && (ownXB K (He.ga K nm) && (decide (PySem.W.findIn K (.ref (He.ga K nm)) "__setattr__" = some (some (.builtin "object.__setattr__"))) && (decide (PySem.W.subIn K (.ref (He.ga K nm)) (.type "BaseException") = some true) &&
  (decide (PySem.W.typeIn K (.ref (He.ga K nm)) = some (.type "type")) && (PySem.W.keepIn K (.ref (He.ga K nm)) && (decide (PySem.W.findIn K (.ref (He.ga K nm)) "__class__" = some (some (.builtin "object.__class__"))) && (decide (PySem.W.specialIn K (.builtin "object.__class__") "__get__" = some (some (.builtin "getset_descriptor.__get__"))) &&
  (decide (PySem.W.takesIn K (.builtin "object.__class__") = some true) && (decide (PySem.W.mroIn K (He.ga K nm) (.type "object") = some true) && PySem.W.readsIn K (He.ga K nm) (.type "type")))))))))))
theorem errB_ok {K : PySem.W.Frag} {nm : Str} (h : errB K nm = true) : IniC K (He.ga K nm) nm := by
  unfold errB at h
  simp only [Bool.and_eq_true, decide_eq_true_eq] at h
  obtain ⟨h1, h2, h3, h4, h5, h6, h7, h8, h9, h10, h11, h12⟩ := h
  obtain ⟨name, q, N, bs, bm, sn, sub, ab, col, dd, k0, k1, tk, k3, k5, e, g⟩ := clsB_ok h1
  have o := ownX_of h3
  refine ⟨⟨⟨name, q, N, bs, bm, sn, sub, ab, col, dd, k0, k1, _, k3, k5, e, g⟩, h4, h5, h6, h7⟩, ⟨o.xf.ga, o.xf.gg, h5, ?_, h8, h9, h10, h11, h12, nameB_ok h2, h6, ⟨_, _, _, _, tk, e, rfl⟩⟩, o⟩
  unfold PySem.W.clsIn
  rw [e] <;> rfl
/-- its __init__ -/
def iniB (K : PySem.W.Frag) (nm file : Str) : Bool := decide (PySem.W.findIn K (.ref (He.ga K nm)) "__init__" = some (some (.ref (He.ma K (He.ga K nm) "__init__")))) && (decide (PySem.W.typeIn K (.ref (He.ma K (He.ga K nm) "__init__")) = some (.type "function")) &&
  (decide (PySem.W.ks_superIn K (He.ga K nm) (He.ga K nm) "__init__" = some (some (.builtin "ValueError.__init__"))) && (decide (PySem.W.subIn K (.ref (He.ga K nm)) (.type "ValueError") = some true) && (decide (PySem.W.mroIn K (He.ga K nm) (.ref (He.ga K nm)) = some true) &&
  (decide (PySem.W.nsIn K cStatics "thirdparty.any" = some none) && (match K.lookup (He.ma K (He.ga K nm) "__init__") with
    | some ⟨_, _, .func fd, _⟩ => (match fd.code, fd.closure with
      | .ref cda, [(_, cc)] => decide (fd.defaults = .none) && (PySem.W.codeIn K (.ref cda) (nm ++ ".__init__") && ((match K.lookup cda with
          | some ⟨_, _, .fields vs, _⟩ => (match (vs[2]? : Option Value) with
            | some (.str z _) => decide (z = file)
            | _ => false)
          | _ => false) && (match K.lookup cc with
          | some ⟨_, _, .cell (some (.ref C')), _⟩ => decide (C' = He.ga K nm)
          | _ => false)))
      | _, _ => false)
    | _ => false))))))
structure IniOk (K : PySem.W.Frag) (nm file : Str) : Prop where
  find : PySem.W.findIn K (.ref (He.ga K nm)) "__init__" = some (some (.ref (He.ma K (He.ga K nm) "__init__")))
  typ : PySem.W.typeIn K (.ref (He.ma K (He.ga K nm) "__init__")) = some (.type "function")
  up : PySem.W.ks_superIn K (He.ga K nm) (He.ga K nm) "__init__" = some (some (.builtin "ValueError.__init__"))
  isB : PySem.W.subIn K (.ref (He.ga K nm)) (.type "ValueError") = some true
  self : PySem.W.mroIn K (He.ga K nm) (.ref (He.ga K nm)) = some true
  opq : PySem.W.nsIn K cStatics "thirdparty.any" = some none
  fn : ∃ (oc : Value) (od : Option Addr) (fd : FuncData) (osl : Array (Option Value)) (cda cc : Addr) (x : Str), K.lookup (He.ma K (He.ga K nm) "__init__") = some ⟨oc, od, .func fd, osl⟩ ∧ fd.code = .ref cda ∧ fd.closure = [(x, cc)] ∧ fd.defaults = .none ∧
    PySem.W.codeIn K (.ref cda) (nm ++ ".__init__") = true ∧ (∃ ccl cdd vs ccs tf, K.lookup cda = some ⟨ccl, cdd, .fields vs, ccs⟩ ∧ vs[2]? = some (.str file tf)) ∧ ∃ cl cld csl, K.lookup cc = some ⟨cl, cld, .cell (some (.ref (He.ga K nm))), csl⟩
theorem iniB_ok {K : PySem.W.Frag} {nm file : Str} (h : iniB K nm file = true) : IniOk K nm file := by
  unfold iniB at h
  simp only [Bool.and_eq_true, decide_eq_true_eq] at h
  obtain ⟨h1, h2, h3, h4, h5, h6, h7⟩ := h
  refine ⟨h1, h2, h3, h4, h5, h6, ?_⟩
  split at h7
  · rename_i oc od fd osl e
    split at h7
    · rename_i cda x cc e1 e2
      simp only [Bool.and_eq_true, decide_eq_true_eq] at h7
      obtain ⟨g1, g2, g3, g4⟩ := h7
      refine ⟨oc, od, fd, osl, cda, cc, x, e, e1, e2, g1, g2, ?_, ?_⟩
      · split at g3
        · rename_i ccl cdd vs ccs ec
          split at g3
          · rename_i z tf ez
            rw [of_decide_eq_true g3] at ez
            exact ⟨ccl, cdd, vs, ccs, tf, ec, ez⟩
          · cases g3
        · cases g3
      · split at g4
        · rename_i cl cld C' csl ec
          rw [of_decide_eq_true g4] at ec
          exact ⟨cl, cld, csl, ec⟩
        · cases g4
    · cases h7
  · cases h7
end VG

set_option maxRecDepth 100000
/-! From the head's facts of an own error to its promise. -/
namespace VG
open PySem PySem.Spec PyProof.Rows L2
section
variable {P : Program} {w : World} {K : PySem.W.Frag} {mg : Str → Option Value} {base : Heap}
theorem errC_of {nm : Str} {flds ps : List Str} {st : Stmt} {rest : List Stmt} {p0 p1 p2 p3 p4 p5 : Pos} {j k n : Nat} {z : Str} {self : Arg} {fC : Addr} {fdC : FuncData} (ini : fnI K (IniD.at_ ⟨nm, st⟩) = IniD.val ⟨nm, st⟩) (I : IniOk K nm P.main.file) (E : IniC K (He.ga K nm) nm) (glob : mg nm = some (.ref (He.ga K nm)))
    (hev : SupEv p0 p1 p2 p3 p4 j z) (hb : defBody st = superInit p0 p1 p2 p3 p4 p5 j z :: rest) (S : IniScope ps (defScope st)) (hself : ((defArgs st).posonlyargs ++ (defArgs st).args).head? = some self) (hp0 : ps[0]? = some self.arg)
    (GC : FnOk P w K mg base CX0 k fC fdC ["value"] (spCopy K n)) (hg : (defScope st).names.lookup ("copied" : Str) = some .globalImplicit) (mC : mg "copied" = some (.ref fC)) (hk : PySem.W.keepIn K (.ref fC) = true) (bC : L2.Binds K fdC ["value"] [])
    (hps : ∀ x ∈ ps, (x == ("__debug__" : Str)) = false ∧ (x == ("__classdict__" : Str)) = false) (hf : ∀ f ∈ flds, f ∈ exFields) (few : flds.length ≤ 100) (hl : ps.length = flds.length + 1) (hs : IniSts ps (slots 1 flds) rest) (sup : mg "super" = none) (top : (P.main.scope.names.lookup ("super" : Str)).isSome = false)
    (binds : ∀ (q : Str) (kV doc pm cdv ct : Value) (an : Option Addr) (cc : Addr) (us : List Value), us.length = ps.length → bindArgs (PySem.W.ksFn "__init__" q (defArgs st) (defBody st) (defScope st) .none kV doc pm an cdv ct cc) ⟨us, []⟩ = pure (ps.zip us)) :
    ErrC P w K mg base nm flds (He.ga K nm) (k + 1) n := by
  obtain ⟨oc, od, fd, osl, cda, cc, x, e, e1, e2, e3, g2, g3, g4⟩ := I.fn
  have e0 : K.lookup (He.fAd K (IniD.at_ ⟨nm, st⟩)) = some ⟨oc, od, .func fd, osl⟩ := e
  unfold fnI at ini
  rw [e0] at ini
  obtain ⟨f1, f2, f3, f4, f5, f6, f7, f8, f9, f10, f11, f12, f13, f14, f15⟩ := fd
  have ini : (some (f1, f2, f3, f4, f5, f6, f7.map (·.1), f15) : FnI) = (some (("__init__" : Str), IniD.qual ⟨nm, st⟩, defArgs st, FuncBody.stmts (defBody st), defScope st, mainGlobals, [("__class__" : Str)], builtinsNs) : FnI) := ini
  simp only [Option.some.injEq, Prod.mk.injEq] at ini
  obtain ⟨rfl, rfl, rfl, rfl, rfl, rfl, ec, rfl⟩ := ini
  have e1 : f13 = .ref cda := e1
  have e2 : f7 = [(x, cc)] := e2
  have e3 : f8 = .none := e3
  subst e1 e2 e3
  have ex : x = "__class__" := by
    have z := List.cons.inj ec
    exact z.1
  subst ex
  obtain ⟨name, q, N, bs, bm, sn, sub, ab, col, dd, k0, k1, k2, k3, k5, lC, hbm⟩ := E.oex.cls
  have T : IniTxt P K mg "ValueError" "ValueError.__init__" "ValueError.__new__" PySem.HandSPX.veTail (He.ga K nm) (He.ma K (He.ga K nm) "__init__") cc cda (IniD.qual ⟨nm, st⟩) (defArgs st) (superInit p0 p1 p2 p3 p4 p5 j z :: rest) (defScope st)
      (PySem.W.ksFn "__init__" (IniD.qual ⟨nm, st⟩) (defArgs st) (defBody st) (defScope st) .none f9 f10 f11 f12 (.ref cda) f14 cc) := by
    refine ⟨PySem.W.kxs_ValueError, F.excBase_ValueError, ⟨oc, od, .none, f9, f10, f11, f12, f14, osl, by rw [hb], e⟩, g2, g3, g4, ⟨name, q, N, bs, bm, true, sn, sub, ab, col, dd, k0, k1, k2, k3, k5, lC⟩, I.up, I.isB, I.self, I.opq, sup, top⟩
  have ok := ok_ini (n := n) (nm := nm) (l := slots 1 flds) hev T S hself hp0 E GC hg mC hk bC hps (fun p hp => ?_) hs
  · rw [hl] at ok
    exact ⟨E, glob, few, _, _, ps, I.find, I.typ, .all (fun us hus => binds _ _ _ _ _ _ _ _ us hus), ok⟩
  · have key : ∀ (l : List Str) (i : Nat), (∀ f ∈ l, f ∈ exFields) → ∀ p ∈ slots i l, p.1 ∈ exFields := by
      intro l
      induction l with
      | nil => intro i _ p hp; cases hp
      | cons f l ih =>
        intro i h p hp
        rcases List.mem_cons.mp hp with e | hp
        · rw [e]
          exact h f List.mem_cons_self
        · exact ih (i + 1) (fun g hg => h g (List.mem_cons_of_mem _ hg)) p hp
    exact key flds 1 hf p hp
end
end VG

set_option maxRecDepth 100000
/-! Instances of own classes: ==, != by an own __eq__, repr, len, truth by own methods. -/
namespace VG
open PySem PySem.Spec PyProof.Rows L2
theorem FnOk.toR {P : Program} {w : World} {K : PySem.W.Frag} {mg : Str → Option Value} {base : Heap} {CX : CXT} {k : Nat} {f : Addr} {fd : FuncData} {ps : List Str} {sp : Sp} (F : L2.FnOk P w K mg base CX k f fd ps sp) (hb : L2.Binds K fd ps []) : FnR P w K mg base CX k f sp := by
  intro A outer s H us vs Q E hr e0 r h
  have hl := F.len _ _ _ _ h
  have hk : K.In s.heap := e0.mod.kin.keeps fun b o e => (e0.bs b o e).1
  refine F.run A outer s H ⟨us, []⟩ us vs Q E hr e0 ?_ r h
  have z := hb s us hk (by rw [List.append_nil, ← r.length, hl])
  rw [List.append_nil] at z
  exact z
/-- data stand where an object that is no sequence changes -/
theorem Dp.offI {K : PySem.W.Frag} {H : Hp} {p C dx : Addr} {fs : List (Str × V)} {o : HO} {d : PyData} {v : V} (hp : H p = some (.ins C dx fs)) (h : Dp K H v d) : Dp K (upd H p o) v d :=
  Dp.same (fun b u z => by
    have n : b ≠ p := fun e => by
      rw [e] at z
      have y := (seqs_sub z).1
      unfold VG.seqs at z
      rw [hp] at z
      cases z
    rw [upd_ne n]
    exact (seqs_sub z).1) d v (Dp.seqs d v h)
section
variable {X : Cx} {CX : CXT} {pins : List (Addr × Obj)} {σ : L2.St} {H : Hp} {s : Shared} {a C dx g : Addr} {fs : List (Str × V)} {n : Nat} {sp : Sp} {E : XK}
theorem ins_inst (I : Inv X pins σ H s) (e : H a = some (.ins C dx fs)) : ∃ od, PySem.W.InstAt s.heap a (PySem.W.instObj C dx) C (some od) := by
  obtain ⟨mA, J, _⟩ := ins_get I.hok e
  obtain ⟨od, J, _⟩ := J.look
  exact ⟨od, J⟩
/-- x == y, x an instance of C, whose __eq__ stands at g; y any value -/
def rEqO (K : PySem.W.Frag) (C : Addr) (sp : Sp) (E : XK) : R2 := fun x y H Q => ∃ a dx fs t, x = .ref a ∧ H a = some (.ins C dx fs) ∧ TyX K H y t ∧ PySem.W.notFirst K C t = true ∧ sp [x, y] H Q E
theorem op_eqO (hs : PySem.W.findIn X.K (.ref C) "__eq__" = some (some (.ref g))) (hf : PySem.W.isFn X.K (.ref g) = true) (F : FnR X.prog X.w X.K X.mg X.base CX n g sp) (hr : Room n X.A) (hx : Passes CX X E) : OpR X (compareOp .Eq) (rEqO X.K C sp E) := by
  intro pins s σ H x y v u Q I rx ry h
  obtain ⟨a, dx, fs, t, rfl, ha, ty, hn, q⟩ := h
  cases (show v = Value.ref a from rx)
  obtain ⟨od, J⟩ := ins_inst I ha
  obtain ⟨P, kx, kp, _⟩ := kit_of I ry ty
  obtain ⟨m, hF⟩ := I.fr
  show wpAny _ _ (richCompare .Eq (.ref a) u) _ _ _
  refine PySem.W.cmp_K (op := .Eq) hr.units0 hF I.ok.mod.kin J (kx.ty _ _ I.kIn kp) hn hs hf ?_
  refine wpAny_mono (wpAny_call (run_fnR (us := [.ref a, u]) (vs := [.ref a, y]) F hr hx I (.cons rfl (.cons ry .nil)) q)) (fun w s' z => ?_) fun _ _ x => x
  obtain ⟨z', H', I', rz, qz⟩ := z
  exact SlX.cmpback rz ⟨z', H', I', rz, qz⟩
/-- repr(x), x an instance of C, whose __repr__ stands at g -/
def rReprO (C : Addr) (sp : Sp) (E : XK) : List V → Hp → VK → Prop := fun xs H Q => ∃ a dx fs, xs = [.ref a] ∧ H a = some (.ins C dx fs) ∧ sp xs H (fun v H' => (∃ z, v = .str z) ∧ Q v H') E
theorem call_reprO (hs : PySem.W.findIn X.K (.ref C) "__repr__" = some (some (.ref g))) (hf : PySem.W.isFn X.K (.ref g) = true) (F : FnR X.prog X.w X.K X.mg X.base CX n g sp) (hr : Room (n + 1) X.A) (hx : Passes CX X E) : CallR X (.builtin "repr") (rReprO C sp E) := by
  intro pins s σ H xs us Q I r h
  obtain ⟨a, dx, fs, rfl, ha, q⟩ := h
  obtain ⟨u, rfl, ru⟩ := vals1 r
  cases (show u = Value.ref a from ru)
  obtain ⟨od, J⟩ := ins_inst I ha
  obtain ⟨m, hF⟩ := I.fr
  have hr1 : Room n X.A.in1 := Room.in1 hr
  refine PySem.W.repr_K hr1.units0 hF I.ok.mod.kin J hs hf (wpAny_mono (wpAny_call (SlX.run_at (us := [.ref a]) (ws := [.ref a]) F hr1 I.env0.in1 hx I (.cons rfl .nil) q)) (fun v s' z => ?_) fun _ _ x => x)
  obtain ⟨z', H', I', rz, ⟨y, rfl⟩, qz⟩ := z
  obtain ⟨t, e⟩ := (show ∃ t, v = Value.str y t from rz)
  cases e
  exact ⟨.str y, H', I', ⟨t, rfl⟩, qz⟩
/-- what != by an own __eq__ asks of the class -/
structure NeK (K : PySem.W.Frag) (C g : Addr) : Prop where
  ex : ∃ (of : Obj) (nm q : Str) (N : Addr) (bs : List Value) (hdct : Bool) (sn : List Str) (sub : List Value) (ab : Bool) (col : Option Bool) (dd : Option Addr) (k0 k1 k2 k3 k5 : Option Value) (newId : String) (oc : Value) (od : Option Addr) (es : Array DictEntry) (ep : Nat) (sl : Array (Option Value)),
    K.lookup C = some (excClassObj nm q C N bs [.type "object"] hdct sn sub ab col dd k0 k1 k2 k3 k5 newId) ∧ K.lookup N = some ⟨oc, od, .dict es ep, sl⟩ ∧ StrKeys es ∧ nsFind es "__eq__" = some (.ref g) ∧ nsFind es "__ne__" = none ∧ K.lookup g = some of ∧ of.cls = .type "function"
theorem NeK.own {K : PySem.W.Frag} {C g a dx : Addr} {h : Heap} (N : NeK K C g) (X : K.In h) (e : h.get? a = some (PySem.W.instObj C dx)) : h.OwnEqNoNe a C g "object" [.type "object"] := by
  obtain ⟨of, nm, q, Na, bs, hdct, sn, sub, ab, col, dd, k0, k1, k2, k3, k5, newId, oc, od, es, ep, sl, h1, h2, h3, h4, h5, h6, h7⟩ := N.ex
  exact ⟨_, of, nm, q, Na, bs, hdct, sn, sub, ab, col, dd, k0, k1, k2, k3, k5, newId, nsFind es, _, e, rfl, X _ _ h1, ⟨_, es, ep, X _ _ h2, rfl, h3, fun _ => rfl⟩, h4, X _ _ h6, h7, PySem.F.cmp_object.mro, PySem.F.cmp_object.eq.lookup, h5⟩
/-- x != y, both instances of C -/
def rNeO (C : Addr) (sp : Sp) (E : XK) : R2 := fun x y H Q => ∃ a dx fs b dy gs, x = .ref a ∧ y = .ref b ∧ H a = some (.ins C dx fs) ∧ H b = some (.ins C dy gs) ∧ sp [x, y] H (fun v H' => ∃ c, v = .bl c ∧ Q (.bl (!c)) H') E
theorem op_neO (N : NeK X.K C g) (F : FnR X.prog X.w X.K X.mg X.base CX n g sp) (hr : Room (n + 1) X.A) (hx : Passes CX X E) : OpR X (compareOp .NotEq) (rNeO C sp E) := by
  intro pins s σ H x y v u Q I rx ry h
  obtain ⟨a, dx, fs, b, dy, gs, rfl, rfl, ha, hb, q⟩ := h
  cases (show v = Value.ref a from rx)
  cases (show u = Value.ref b from ry)
  obtain ⟨mA, J, _⟩ := ins_get I.hok ha
  obtain ⟨mB, J', _⟩ := ins_get I.hok hb
  have hr1 : Room n X.A.in1 := Room.in1 hr
  have hu : X.A.units + 1 < cLine := hu_of hr
  have O := N.own I.kIn J.obj
  obtain ⟨hp, gg, d, tk, os⟩ := s
  refine compareOp_ne_ownEq PySem.F.cmp_object O J'.obj rfl hu (wpAny_mono (wpAny_call (SlX.run_at (us := [.ref a, .ref b]) (ws := [.ref a, .ref b]) F hr1 I.env0.in1 hx I (.cons rfl (.cons rfl .nil)) q)) (fun v s' z => ?_) fun _ _ x => x)
  obtain ⟨z', H', I', rz, ⟨c, rfl, qz⟩⟩ := z
  cases (show v = Value.bool c from rz)
  exact ⟨c, rfl, .bl (!c), H', I', rfl, qz⟩
end
end VG

set_option maxRecDepth 100000
/-! super().__init__(..) in a class that is no error, whose base class is the program's. -/
namespace VG
open PySem PySem.Spec PyProof.Rows L2
open PySem.W (ksFn ksEnv)
/-- what the written part tells of the class at D, of its __init__ at f (its cell at cc, its code at cda) -/
structure SubTxt (P : Program) (K : PySem.W.Frag) (mg : Str → Option Value) (D f cc cda : Addr) (qual : Str) (params : Arguments) (body : List Stmt) (sc : Scope) (fd : FuncData) : Prop where
  fn : ∃ oc od dV kV doc pm an ct osl, fd = ksFn "__init__" qual params body sc dV kV doc pm an (.ref cda) ct cc ∧ K.lookup f = some ⟨oc, od, .func fd, osl⟩
  code : PySem.W.codeIn K (.ref cda) qual = true
  file : ∃ ccl cdd vs ccs tf, K.lookup cda = some ⟨ccl, cdd, .fields vs, ccs⟩ ∧ vs[2]? = some (.str P.main.file tf)
  cell : ∃ cl cld csl, K.lookup cc = some ⟨cl, cld, .cell (some (.ref D)), csl⟩
  cls : ∃ oD cdD, K.lookup D = some oD ∧ oD.data = .cls cdD
  opq : PySem.W.nsIn K cStatics "thirdparty.any" = some none
  sup : mg "super" = none
  top : (P.main.scope.names.lookup ("super" : Str)).isSome = false
/-- instances of C reach the __init__ at g by D's super() -/
structure SubOf (K : PySem.W.Frag) (D C g : Addr) : Prop where
  mro : PySem.W.mroIn K C (.ref D) = some true
  up : PySem.W.ks_superIn K C D "__init__" = some (some (.ref g))
  ty : PySem.W.typeIn K (.ref g) = some (.type "function")
  fn : PySem.W.fnIn K g = true
abbrev superCall (p0 p1 p2 p4 p5 : Pos) (e : Expr) (es : List Expr) : Stmt := .Expr (.Call (.Attribute (.Call (.Name "super" p0) [] [] p1) "__init__" p2) (e :: es) [] p4) p5
def SupEvG (p0 p1 p2 p4 : Pos) (e : Expr) (es : List Expr) : Prop := ∀ env : Env, ∃ pl : Sem Bool, eval (.Call (.Attribute (.Call (.Name "super" p0) [] [] p1) "__init__" p2) (e :: es) [] p4) env = (do
  let ov ← attributeBase (.Call (.Name "super" p0) [] [] p1) "__init__" env (eval (.Call (.Name "super" p0) [] [] p1) env)
  standAt p2.atName
  let (f, first) ← holding [ov] (getMethod ov "__init__" pl)
  callWith p4 f first (backTo p4 (starEach (e :: es) env)) [])
section
variable {P : Program} {w : World} {K : PySem.W.Frag} {mg : Str → Option Value} {base : Heap} {D f cc cda g : Addr} {qual : Str} {params : Arguments} {rest : List Stmt} {sc : Scope} {fd : FuncData} {ps : List Str} {p0 p1 p2 p4 p5 : Pos} {k kb : Nat} {self : Arg} {sp spB : Sp} {e : Expr} {es : List Expr}
theorem sup_ok (hev : SupEvG p0 p1 p2 p4 e es) (T : SubTxt P K mg D f cc cda qual params (superCall p0 p1 p2 p4 p5 e es :: rest) sc fd) (S : IniScope ps sc) (hself : (params.posonlyargs ++ params.args).head? = some self) (hp0 : ps[0]? = some self.arg)
    (hse : ∀ env : Env, starEach (e :: es) env = (false, eval e env) :: starEach es env) (hpl : ∀ env : Env, (backTo p4 (starEach es env)).any (·.1) = false)
    (GB : FnR P w K mg base CX0 kb g spB) (hkb : kb ≤ k)
    (many : ∀ vs H Q E, sp vs H Q E → vs.length = ps.length)
    (body : ∀ (A : Around) (outer : List Env) (s : Shared) (H : Hp) (vs : List V) (Q : VK) (E : XK), Room k (A.deeper (ksEnv qual sc s.heap.objs.size f (.ref cda) cc)) → sp vs H Q E →
      ∃ a ws C dx fs, vs = .ref a :: ws ∧ H a = some (.ins C dx fs) ∧ SubOf K D C g ∧ ∃ ta t, PA (iniCx P w K mg base ps qual sc f cda cc A outer s H) (e :: es) ta ∧ PSs (iniCx P w K mg base ps qual sc f cda cc A outer s H) rest t ∧
        ta (vs.map some) H fun us H1 => spB (.ref a :: us) H1 (fun _ H2 => t { nx := fun _ H' => Q .non H', rt := Q } (vs.map some) H2) E0) :
    FnOk P w K mg base CX0 (k + 1) f fd ps sp := by
  obtain ⟨oc, od, dV, kV, doc, pm, an, ct, osl, rfl, lk⟩ := T.fn
  obtain ⟨ccl, cdd, cvs, ccs, tf, lcode, hfile⟩ := T.file
  obtain ⟨cl, cld, csl, lcell⟩ := T.cell
  obtain ⟨oD, cdD, lD, hD2⟩ := T.cls
  refine ⟨many, fun A outer s H args us vs Q E hr e0 hb r hsp => ?_⟩
  have KX : K.In s.heap := e0.mod.kin.keeps fun b o e => (e0.bs b o e).1
  have lim : s.heap.NoLimit := e0.mod.nolimit.keeps fun b o e => (e0.bs b o e).1
  have hl : us.length = ps.length := r.length.symm.trans (many _ _ _ _ hsp)
  refine PySem.ks_codeAny_call_defAt (body := superCall p0 p1 p2 p4 p5 e es :: rest) (binds := ps.zip us) hr.depth (KX _ _ lk) rfl lim (PySem.W.codeRec_of KX T.code) rfl hb S.noc (fun y hy => S.par y.1 (List.of_mem_zip hy).1) (fun h₁ hns hk => ?_) S.co S.gen S.kind
  have hrk := hr.deeper (ksEnv qual sc s.heap.objs.size f (.ref cda) cc)
  obtain ⟨a, ws, C, dx, fs, rfl, hea, SO, ta, t, hta, ht, hq⟩ := body A outer s H vs Q E hrk hsp
  have I : Inv (iniCx P w K mg base ps qual sc f cda cc A outer s H) [] ((V.ref a :: ws).map some) H { s with heap := h₁, toks := s.toks + (ps.zip us).length } := ini_start S hr.hd e0 hl r lcell rfl hns hk
  have hu0 : us[0]? = some (.ref a) := by
    obtain ⟨u, h1, h2⟩ := r.get (i := 0) (x := .ref a) rfl
    rw [h1]
    exact congrArg some h2
  have hself' : (ps.zip us).reverse.lookup self.arg = some (.ref a) := by
    refine lookup_of_mem ?_ (List.mem_reverse.mpr (zip_mem hp0 hu0))
    rw [List.map_reverse, zip_keys hl]
    exact List.pairwise_reverse.mpr (S.nd.imp Ne.symm)
  have fin : ∀ {σ' : L2.St} {H' : Hp} {v : V} {u : Value} {s' : Shared}, Inv (iniCx P w K mg base ps qual sc f cda cc A outer s H) [] σ' H' s' → RelV v u → Q v H' → CE outer P w H s Q u s' := fun J rv q => ⟨_, _, J.os, J.bare, J.base, J.hok, rv, q⟩
  have X1 := I.kIn
  obtain ⟨mb, hmb, hbb⟩ := I.mod.blt
  obtain ⟨oda, Ja⟩ := ins_inst I hea
  have hint : interactive (ksEnv qual sc s.heap.objs.size f (.ref cda) cc) = false := by
    unfold interactive
    simp [S.kind]
  obtain ⟨pl, he⟩ := hev (ksEnv qual sc s.heap.objs.size f (.ref cda) cc)
  refine PySem.ks_wpAt_execs_cons (PySem.ks_wpAt_Expr_any (PySem.ks_wpAt_MethodCall (pl := pl) ?_ he) hint)
  refine PySem.ks_wpAt_super_base (env := ksEnv qual sc s.heap.objs.size f (.ref cda) cc) S.sup S.cls (by decide) rfl (X1 _ _ lk) rfl hself rfl (X1 _ _ lcode) rfl hfile (beq_self_eq_true _) T.top ?_
  refine PySem.W.ks_loadName_global S.kind S.sup (Calls.loadGlobal_builtin (env := ksEnv qual sc s.heap.objs.size f (.ref cda) cc) (I.mod.glob.keeps I.bk) T.sup (hmb.keeps I.bk) ((hbb "super" (by decide +kernel)).trans PyProof.Rows.Boot.«super») ⟨rfl, ?_⟩)
  refine wpAny_loadName_free S.kind S.cls rfl ⟨_, X1 _ _ lcell, rfl⟩ ?_
  refine wpAny_loadName_local S.kind (S.par _ (List.mem_of_getElem? hp0)) hns hself' ?_
  refine PySem.ks_wpAny_isType_cls (X1 _ _ lD) hD2 ⟨rfl, ?_⟩
  refine PySem.ks_wpAny_call_super (X1 _ _ lD) hD2 Ja.at_ Ja.cls (fun c e => ?_) (PySem.W.looks_mroIn X1 SO.mro) (fun h2 e2 k2 => ?_)
  · cases e
  have I2 := I.kept (t' := s.toks + (ps.zip us).length) k2
  have X2 := I2.kIn
  obtain ⟨od2, J2⟩ := ins_inst I2 hea
  cases hcd : PySem.W.clsIn K C with
  | none =>
    have z := SO.up
    unfold PySem.W.ks_superIn at z
    rw [hcd] at z
    cases z
  | some cd =>
  have hup : PySem.W.alongIn K "__init__" ((cd.mro.dropWhile (· != .ref D)).drop 1) = some (some (.ref g)) := by
    have z := SO.up
    unfold PySem.W.ks_superIn at z
    rw [hcd] at z
    exact z
  obtain ⟨of, hof, hofc⟩ := Option.map_eq_some_iff.mp (show (K.lookup g).map (·.cls) = some (.type "function") from SO.ty)
  refine PySem.ks_wpAny_getMethod_super e2 (PySem.W.looks_opaque X2 T.opq) (l₀ := cd.mro) (fun A Q E s k q => wpAny_bind ((PySem.W.looks_clsIn X2 hcd) A _ E s k (wpAny_pure q))) rfl X2 hup (X2 _ _ hof) hofc (PySem.W.ks_ne X2 J2 hcd) (by decide) ?_
  have I3 := ClX.met_new (g := g) (C := a) I2
  refine ClX.callwith_cm I3 (ClX.base_none I2 (Nat.le_refl _)) SO.fn (thnF (hta.run p4 _ _ _ H _ I3 hq) fun us4 s4 ⟨vs4, H4, I4, r4, q4⟩ => ⟨⟨ClX.pin_at I4, I4.kIn⟩, ?_⟩) (hse _) (hpl _)
  refine thnF (ClX.run_cm GB (hrk.mono hkb) pass0 I4 r4 q4) fun u5 s5 ⟨v5, H5, I5, r5, q5⟩ => ?_
  refine wpAt_of_wpAny (thnF (ht.run [] _ _ _ _ I5 q5) fun fl s' hs => ?_)
  match fl, hs with
  | .ret u, hs =>
    obtain ⟨v, σ', H', J, rv, q⟩ := hs
    exact fin J rv q
  | .next, hs =>
    obtain ⟨σ', H', J, q⟩ := hs
    exact fin (v := V.non) (u := Value.none) J rfl q
  | .brk, hs =>
    obtain ⟨_, _, _, q⟩ := hs
    exact False.elim q
  | .cont, hs =>
    obtain ⟨_, _, _, q⟩ := hs
    exact False.elim q
end
end VG

set_option maxRecDepth 100000
/-! What the head is to tell of an own class with an __eq__, as a Bool. -/
namespace VG
open PySem PySem.Spec PyProof.Rows L2
def strKeysB (es : Array DictEntry) : Bool := es.toList.all fun e => match e.key with
  | .str _ _ => true
  | _ => false
theorem strKeysB_ok {es : Array DictEntry} (h : strKeysB es = true) : StrKeys es := fun e he => by
  have z := List.all_eq_true.mp h e (Array.mem_toList_iff.mpr he)
  split at z
  · rename_i n t q
    exact ⟨n, t, q⟩
  · cases z
def neB (K : PySem.W.Frag) (C g : Addr) : Bool := (match K.lookup C with
  | some ⟨.type t, _, .cls cd, sl⟩ => decide (t = "type") && (match cd.mro, sl.toList with
    | [.ref C', .type o], [_, _, _, _, some (.builtin _), _] => decide (C' = C) && (decide (o = "object") && (!cd.hasDel && (match K.lookup cd.ns with
      | some ⟨_, _, .dict es _, _⟩ => strKeysB es && (decide (nsFind es "__eq__" = some (.ref g)) && decide (nsFind es "__ne__" = none))
      | _ => false)))
    | _, _ => false)
  | _ => false) && (match K.lookup g with
  | some ⟨.type t, _, _, _⟩ => decide (t = "function")
  | _ => false)
theorem neB_ok {K : PySem.W.Frag} {C g : Addr} (h : neB K C g = true) : NeK K C g := by
  unfold neB at h
  obtain ⟨h, hg⟩ := Bool.and_eq_true_iff.mp h
  split at hg
  · rename_i tg og dg sg eg
    have htg : tg = "function" := of_decide_eq_true hg
    subst htg
    split at h
    · rename_i t dd cd sl e
      obtain ⟨h1, h2⟩ := Bool.and_eq_true_iff.mp h
      have ht : t = "type" := of_decide_eq_true h1
      split at h2
      · rename_i C' o a0 a1 a2 a3 n a5 e1 e2
        simp only [Bool.and_eq_true, decide_eq_true_eq, Bool.not_eq_true'] at h2
        obtain ⟨g1, g2, g3, g4⟩ := h2
        split at g4
        · rename_i oc od es ep sl2 e3
          simp only [Bool.and_eq_true, decide_eq_true_eq] at g4
          obtain ⟨q1, q2, q3⟩ := g4
          subst ht g1 g2
          obtain ⟨c1, c2, c3, c4, c5, c6, c7, c8, c9, c10, c11⟩ := cd
          have e1 : c3 = [.ref C', .type "object"] := e1
          have g3 : c11 = false := g3
          subst e1 g3
          have es' : sl = #[a0, a1, a2, a3, some (.builtin n), a5] := Array.toList_inj.mp e2
          subst es'
          exact ⟨_, c1, c5, c4, c2, c6, c7, c8, c9, c10, dd, a0, a1, a2, a3, a5, n, oc, od, es, ep, sl2, e, e3, strKeysB_ok q1, q2, q3, eg, rfl⟩
        · cases g4
      · cases h2
    · cases h
  · cases hg
/-- isinstance of its instances -/
def insB (K : PySem.W.Frag) (C : Addr) : Bool := decide (PySem.W.findIn K (.ref C) "__class__" = some (some (.builtin "object.__class__"))) && (decide (PySem.W.specialIn K (.builtin "object.__class__") "__get__" = some (some (.builtin "getset_descriptor.__get__"))) &&
  (decide (PySem.W.takesIn K (.builtin "object.__class__") = some true) && (decide (PySem.W.mroIn K C (.type "object") = some true) && decide (PySem.W.kitOne K (.ref C) (.ref C) = some true))))
theorem insB_ok {K : PySem.W.Frag} {C : Addr} (h : insB K C = true) : PySem.W.findIn K (.ref C) "__class__" = some (some (.builtin "object.__class__")) ∧ PySem.W.specialIn K (.builtin "object.__class__") "__get__" = some (some (.builtin "getset_descriptor.__get__")) ∧
    PySem.W.takesIn K (.builtin "object.__class__") = some true ∧ PySem.W.mroIn K C (.type "object") = some true ∧ PySem.W.kitOne K (.ref C) (.ref C) = some true := by
  unfold insB at h
  simp only [Bool.and_eq_true, decide_eq_true_eq] at h
  exact h
end VG

set_option maxRecDepth 100000
/-! A hook that tells the getters of properties too. -/
namespace VG
open PySem PySem.Spec PyProof.Rows L2
open He (ba Fa DefD Defn)
/-- a property, as its getter is written -/
structure ProD where
  cls : Str
  name : Str
  st : Stmt
def ProD.qual (d : ProD) : Str := d.cls ++ "." ++ d.name
def ProD.p (K : PySem.W.Frag) (d : ProD) : Addr := He.ma K (He.ga K d.cls) d.name
def ProD.g (K : PySem.W.Frag) (d : ProD) : Addr := match PySem.W.recIn K (d.p K) "property" with
  | some (.ref g :: _) => g
  | _ => 0
def fnP (K : PySem.W.Frag) (g : Addr) : He.FnW := match K.lookup g with
  | some ⟨_, _, .func fd, _⟩ => some (fd.name, fd.qualname, fd.params, fd.body, fd.scope, fd.globals, fd.closure, fd.builtins)
  | _ => none
def ProD.val (d : ProD) : He.FnW := some (d.name, d.qual, defArgs d.st, .stmts (defBody d.st), defScope d.st, mainGlobals, [], builtinsNs)
def proB (K : PySem.W.Frag) (d : ProD) : Bool := He.eqO (PySem.W.findIn K (.ref (He.ga K d.cls)) d.name) (some (some (.ref (d.p K)))) && (He.eqO (PySem.W.specialIn K (.ref (d.p K)) "__get__") (some (some (.builtin "property.__get__"))) &&
  (decide (PySem.W.takesIn K (.ref (d.p K)) = some true) && (PySem.W.keepIn K (.ref (d.g K)) && ((match PySem.W.recIn K (d.p K) "property" with
    | some (.ref _ :: _) => true
    | _ => false) && match K.lookup (d.g K) with
    | some ⟨_, _, .func fd, _⟩ => PySem.W.codeIn K fd.code d.qual && (He.dflB K fd.defaults [] && He.kwdB K fd.kwdefaults [])
    | _ => false))))
theorem proB_ok {K : PySem.W.Frag} {d : ProD} (e : fnP K (d.g K) = d.val) (c : proB K d = true) : PropOf K (He.ga K d.cls) d.name (d.p K) (d.g K) ∧ ∃ fd, FunD K d.name d.qual (defArgs d.st) (defBody d.st) (defScope d.st) [] [] (d.g K) fd := by
  obtain ⟨c1, c⟩ := ba c
  obtain ⟨c2, c⟩ := ba c
  obtain ⟨c3, c⟩ := ba c
  obtain ⟨kp, c⟩ := ba c
  obtain ⟨c4, c2'⟩ := ba c
  have hr : ∃ rest, PySem.W.recIn K (d.p K) "property" = some (.ref (d.g K) :: rest) := by
    unfold ProD.g
    split at c4
    · rename_i g rest hg
      exact ⟨rest, by rw [hg]⟩
    · cases c4
  refine ⟨⟨He.eqO_ok c1, He.eqO_ok c2, of_decide_eq_true c3, hr⟩, ?_⟩
  unfold fnP at e
  cases q : K.lookup (d.g K) with
  | none =>
    rw [q] at c2'
    cases c2'
  | some o =>
    obtain ⟨oc, od, dt, osl⟩ := o
    rw [q] at c2' e
    cases dt with
    | func fd =>
      obtain ⟨n1, n2, n3, n4, n5, n6, n7, n8, n9, n10, n11, n12, n13, n14, n15⟩ := fd
      have e2 : (some (n1, n2, n3, n4, n5, n6, n7, n15) : He.FnW) = some (d.name, d.qual, defArgs d.st, .stmts (defBody d.st), defScope d.st, mainGlobals, [], builtinsNs) := e
      simp only [Option.some.injEq, Prod.mk.injEq] at e2
      obtain ⟨h1, h2, h3, h4, h5, h6, h7, h8⟩ := e2
      subst h1 h2 h3 h4 h5 h6 h7 h8
      have c3 : (PySem.W.codeIn K n13 d.qual && (He.dflB K n8 [] && He.kwdB K n9 [])) = true := c2'
      obtain ⟨k1, k2⟩ := ba c3
      obtain ⟨k3, k4⟩ := ba k2
      exact ⟨_, ⟨oc, od, n8, n9, n10, n11, n12, n13, n14, osl, rfl, q, k1, He.dflB_ok k3, He.kwdB_ok k4⟩, kp⟩
    | _ => cases e
abbrev AlP : Type := AlI × List He.FnW
section
variable {n : Nat} {fa : List Fa} {fn : List DefD} {tf : List Defn} {ex : PySem.W.Frag → Bool} {ins : List IniD} {pro : List ProD}
def obsP (n : Nat) (fa : List Fa) (fn : List DefD) (tf : List Defn) (ex : PySem.W.Frag → Bool) (ins : List IniD) (pro : List ProD) (g : Addr → Option Obj) : AlP :=
  (obsI n fa fn tf ex ins g, pro.map fun d => fnP (He.frT g (asI g n)) (d.g (He.frT g (asI g n))))
structure SaysP (fa : List Fa) (fn : List DefD) (tf : List Defn) (ex : PySem.W.Frag → Bool) (ins : List IniD) (pro : List ProD) (w : World) (h : Heap) (K : PySem.W.Frag) : Prop where
  i : SaysI fa fn tf ex ins w h K
  pro_ : ∀ d ∈ pro, fnP K (d.g K) = d.val
theorem saysP_of {w : World} {h : Heap} (e : obsP n fa fn tf ex ins pro h.get? = ((He.valX fn [] w, ins.map IniD.val), pro.map ProD.val)) : SaysP fa fn tf ex ins pro w h (He.frT h.get? (asI h.get? n)) := by
  have e1 : obsI n fa fn tf ex ins h.get? = (He.valX fn [] w, ins.map IniD.val) := congrArg (fun z : AlP => z.1) e
  have e2 : (pro.map fun d => fnP (He.frT h.get? (asI h.get? n)) (d.g (He.frT h.get? (asI h.get? n)))) = pro.map ProD.val := congrArg (fun z : AlP => z.2) e
  exact ⟨saysI_of e1, fun d hd => List.map_inj_left.mp e2 d hd⟩
def hookP (n : Nat) (fa : List Fa) (fn : List DefD) (tf : List Defn) (ex : PySem.W.Frag → Bool) (ins : List IniD) (pro : List ProD) : PySem.W.Hook where
  α := AlP
  obs := fun s => obsP n fa fn tf ex ins pro s.heap.get?
  val := fun w => ((He.valX fn [] w, ins.map IniD.val), pro.map ProD.val)
  says := fun w h => ∃ K : PySem.W.Frag, K.In h ∧ SaysP fa fn tf ex ins pro w h K
  of := fun _ _ e => ⟨_, He.frT_in, saysP_of e⟩
  keeps := fun _ _ _ ⟨K, hK, c⟩ k => ⟨K, PySem.W.Frag.In.keeps hK k, ⟨⟨c.i.x.t, c.i.x.more, c.i.x.hd, c.i.x.out, fun p hp => k _ _ (c.i.x.empty p hp)⟩, c.i.ini⟩, c.pro_⟩
theorem obsP_eq {g : Addr → Option Obj} {s : Shared} (h : ∀ a, g a = s.heap.get? a) : obsP n fa fn tf ex ins pro g = (hookP n fa fn tf ex ins pro).obs s := by
  have e : g = s.heap.get? := funext h
  rw [e] <;> rfl
end
/-! ### a constant read off the class; a default that is an empty tuple -/
def cvalB (K : PySem.W.Frag) (C f : Str) (i : Int) : Bool := PySem.W.readsIn K (He.ga K C) (.type "type") && (He.eqO (PySem.W.specialIn K (.ref (He.ga K C)) "__getattribute__") (some (some (.builtin "type.__getattribute__"))) &&
  match PySem.W.findCls K (.ref (He.ga K C)) (.type "type") f with
  | some (.val (.int j _)) => decide (j = i)
  | _ => false)
theorem cvalB_ok {K : PySem.W.Frag} {C f : Str} {i : Int} (h : cvalB K C f i = true) : ∃ u, ClX.CRead K (He.ga K C) (.type "type") ∧ ClX.CVal K (He.ga K C) (.type "type") f (.int i) u := by
  obtain ⟨h1, h⟩ := ba h
  obtain ⟨h2, h3⟩ := ba h
  split at h3
  · rename_i j t hj
    exact ⟨_, ⟨h1, He.eqO_ok h2⟩, hj, t, by rw [of_decide_eq_true h3]⟩
  · cases h3
def nilB (K : PySem.W.Frag) (e : Addr) : Bool := match K.lookup e with
  | some ⟨.type c, _, .seq its _, _⟩ => decide (c = "tuple") && decide (its = #[])
  | _ => false
theorem nilB_ok {K : PySem.W.Frag} {e : Addr} (h : nilB K e = true) (H : Hp) : SqT K H e [] := by
  unfold nilB at h
  split at h
  · rename_i c od its m osl q
    obtain ⟨h1, h2⟩ := ba h
    have e1 := of_decide_eq_true h1
    have e2 := of_decide_eq_true h2
    subst e1 e2
    exact .inr ⟨_, #[], m, q, rfl, rfl, by decide, .nil⟩
  · cases h
end VG

set_option maxRecDepth 100000
/-! What a head is to tell of classes below the program's own: an __init__ that begins with super().__init__(..), inherited properties, constants that are texts. -/
namespace VG
open PySem PySem.Spec PyProof.Rows L2
open PySem.W (ksFn)
open He (ba)
def sinB (K : PySem.W.Frag) (nm q file : Str) : Bool := (match K.lookup (He.ma K (He.ga K nm) "__init__") with
    | some ⟨_, _, .func fd, _⟩ => (match fd.code, fd.closure with
      | .ref cda, [(_, cc)] => decide (fd.defaults = .none) && (PySem.W.codeIn K (.ref cda) q && ((match K.lookup cda with
          | some ⟨_, _, .fields vs, _⟩ => (match (vs[2]? : Option Value) with
            | some (.str z _) => decide (z = file)
            | _ => false)
          | _ => false) && (match K.lookup cc with
          | some ⟨_, _, .cell (some (.ref C')), _⟩ => decide (C' = He.ga K nm)
          | _ => false)))
      | _, _ => false)
    | _ => false) && ((match K.lookup (He.ga K nm) with
    | some ⟨_, _, .cls _, _⟩ => true
    | _ => false) && decide (PySem.W.nsIn K cStatics "thirdparty.any" = some none))
theorem sinB_ok {K : PySem.W.Frag} {nm q file : Str} (h : sinB K nm q file = true) : (∃ (oc : Value) (od : Option Addr) (fd : FuncData) (osl : Array (Option Value)) (cda cc : Addr) (x : Str), K.lookup (He.ma K (He.ga K nm) "__init__") = some ⟨oc, od, .func fd, osl⟩ ∧ fd.code = .ref cda ∧ fd.closure = [(x, cc)] ∧ fd.defaults = .none ∧
    PySem.W.codeIn K (.ref cda) q = true ∧ (∃ ccl cdd vs ccs tf, K.lookup cda = some ⟨ccl, cdd, .fields vs, ccs⟩ ∧ vs[2]? = some (.str file tf)) ∧ ∃ cl cld csl, K.lookup cc = some ⟨cl, cld, .cell (some (.ref (He.ga K nm))), csl⟩) ∧
    (∃ oD cdD, K.lookup (He.ga K nm) = some oD ∧ oD.data = .cls cdD) ∧ PySem.W.nsIn K cStatics "thirdparty.any" = some none := by
  obtain ⟨h7, h⟩ := ba h
  obtain ⟨h8, h9⟩ := ba h
  refine ⟨?_, ?_, of_decide_eq_true h9⟩
  · split at h7
    · rename_i oc od fd osl e
      split at h7
      · rename_i cda x cc e1 e2
        simp only [Bool.and_eq_true, decide_eq_true_eq] at h7
        obtain ⟨g1, g2, g3, g4⟩ := h7
        refine ⟨oc, od, fd, osl, cda, cc, x, e, e1, e2, g1, g2, ?_, ?_⟩
        · split at g3
          · rename_i ccl cdd vs ccs ec
            split at g3
            · rename_i z tf ez
              rw [of_decide_eq_true g3] at ez
              exact ⟨ccl, cdd, vs, ccs, tf, ec, ez⟩
            · cases g3
          · cases g3
        · split at g4
          · rename_i cl cld C' csl ec
            rw [of_decide_eq_true g4] at ec
            exact ⟨cl, cld, csl, ec⟩
          · cases g4
      · cases h7
    · cases h7
  · split at h8
    · rename_i c d cd sl e
      exact ⟨_, cd, e, rfl⟩
    · cases h8
theorem subTxt_of {P : Program} {K : PySem.W.Frag} {mg : Str → Option Value} {nm q : Str} {st : Stmt} (hq : IniD.qual ⟨nm, st⟩ = q) (ini : fnI K (IniD.at_ ⟨nm, st⟩) = IniD.val ⟨nm, st⟩) (h : sinB K nm q P.main.file = true) (sup : mg "super" = none) (top : (P.main.scope.names.lookup ("super" : Str)).isSome = false) :
    ∃ (cc cda : Addr) (kV doc pm : Value) (an : Option Addr) (ct : Value), SubTxt P K mg (He.ga K nm) (He.ma K (He.ga K nm) "__init__") cc cda q (defArgs st) (defBody st) (defScope st) (ksFn "__init__" q (defArgs st) (defBody st) (defScope st) .none kV doc pm an (.ref cda) ct cc) := by
  obtain ⟨⟨oc, od, fd, osl, cda, cc, x, e, e1, e2, e3, g2, g3, g4⟩, hc, ho⟩ := sinB_ok h
  subst hq
  have e0 : K.lookup (He.fAd K (IniD.at_ ⟨nm, st⟩)) = some ⟨oc, od, .func fd, osl⟩ := e
  unfold fnI at ini
  rw [e0] at ini
  obtain ⟨f1, f2, f3, f4, f5, f6, f7, f8, f9, f10, f11, f12, f13, f14, f15⟩ := fd
  have ini : (some (f1, f2, f3, f4, f5, f6, f7.map (·.1), f15) : FnI) = (some (("__init__" : Str), IniD.qual ⟨nm, st⟩, defArgs st, FuncBody.stmts (defBody st), defScope st, mainGlobals, [("__class__" : Str)], builtinsNs) : FnI) := ini
  simp only [Option.some.injEq, Prod.mk.injEq] at ini
  obtain ⟨rfl, rfl, rfl, rfl, rfl, rfl, ec, rfl⟩ := ini
  have e1 : f13 = .ref cda := e1
  have e2 : f7 = [(x, cc)] := e2
  have e3 : f8 = .none := e3
  subst e1 e2 e3
  have ex : x = "__class__" := by
    have z := List.cons.inj ec
    exact z.1
  subst ex
  exact ⟨cc, cda, f9, f10, f11, f12, f14, ⟨oc, od, .none, f9, f10, f11, f12, f14, osl, rfl, e⟩, g2, g3, g4, hc, ho, sup, top⟩
/-- instances of C reach B's __init__ by D's super() -/
def subB (K : PySem.W.Frag) (D C B : Str) : Bool := decide (PySem.W.mroIn K (He.ga K C) (.ref (He.ga K D)) = some true) && (decide (PySem.W.ks_superIn K (He.ga K C) (He.ga K D) "__init__" = some (some (.ref (He.ma K (He.ga K B) "__init__")))) &&
  (decide (PySem.W.typeIn K (.ref (He.ma K (He.ga K B) "__init__")) = some (.type "function")) && PySem.W.fnIn K (He.ma K (He.ga K B) "__init__")))
theorem subB_ok {K : PySem.W.Frag} {D C B : Str} (h : subB K D C B = true) : SubOf K (He.ga K D) (He.ga K C) (He.ma K (He.ga K B) "__init__") := by
  obtain ⟨h1, h⟩ := ba h
  obtain ⟨h2, h⟩ := ba h
  obtain ⟨h3, h4⟩ := ba h
  exact ⟨of_decide_eq_true h1, of_decide_eq_true h2, of_decide_eq_true h3, h4⟩
/-- an inherited property -/
def proIB (K : PySem.W.Frag) (d : ProD) (C : Str) : Bool := He.eqO (PySem.W.findIn K (.ref (He.ga K C)) d.name) (some (some (.ref (d.p K))))
theorem proIB_ok {K : PySem.W.Frag} {d : ProD} {C : Str} {g B : Addr} (h : proIB K d C = true) (p : PropOf K B d.name (d.p K) g) : PropOf K (He.ga K C) d.name (d.p K) g := ⟨He.eqO_ok h, p.get, p.tak, p.rec_⟩
def cvalS (K : PySem.W.Frag) (C f x : Str) : Bool := PySem.W.readsIn K (He.ga K C) (.type "type") && (He.eqO (PySem.W.specialIn K (.ref (He.ga K C)) "__getattribute__") (some (some (.builtin "type.__getattribute__"))) &&
  match PySem.W.findCls K (.ref (He.ga K C)) (.type "type") f with
  | some (.val (.str y _)) => decide (y = x)
  | _ => false)
theorem cvalS_ok {K : PySem.W.Frag} {C f x : Str} (h : cvalS K C f x = true) : ClX.CRead K (He.ga K C) (.type "type") ∧ ∃ u, ClX.CVal K (He.ga K C) (.type "type") f (.str x) u := by
  obtain ⟨h1, h⟩ := ba h
  obtain ⟨h2, h3⟩ := ba h
  split at h3
  · rename_i y t hy
    exact ⟨⟨h1, He.eqO_ok h2⟩, _, hy, t, by rw [of_decide_eq_true h3]⟩
  · cases h3
end VG

set_option maxRecDepth 100000
/-! The hook of V3 over fewer objects: a few steps, then what the told methods name. -/
namespace VG
open PySem PySem.Spec PyProof.Rows L2
open He (ba Fa DefD Defn)
/-- what some objects name -/
def grow1 (g : Addr → Option Obj) (as : List Addr) : List Addr := as.flatMap fun a => match g a with
  | some o => He.refsD o
  | none => []
/-- the methods that are told -/
def selQ (fn : List DefD) (ins : List IniD) (pro : List ProD) (K : PySem.W.Frag) : List Addr := (fn.flatMap fun d => match d.at_.2 with
  | some _ => [He.fAd K d.at_]
  | none => []) ++ (ins.map (fun d => He.fAd K d.at_) ++ pro.map fun d => d.p K)
def tailQ (g : Addr → Option Obj) (s1 : List Addr) : List Addr := s1 ++ (grow1 g s1 ++ grow1 g (grow1 g s1))
def asQ (g : Addr → Option Obj) (n : Nat) (fn : List DefD) (ins : List IniD) (pro : List ProD) : List Addr := asI g n ++ tailQ g (selQ fn ins pro (He.frT g (asI g n)))
section
variable {n : Nat} {fa : List Fa} {fn : List DefD} {tf : List Defn} {ex : PySem.W.Frag → Bool} {ins : List IniD} {pro : List ProD}
def obsQ (n : Nat) (fa : List Fa) (fn : List DefD) (tf : List Defn) (ex : PySem.W.Frag → Bool) (ins : List IniD) (pro : List ProD) (g : Addr → Option Obj) : AlP :=
  (((He.obsT fa fn [] (He.frT g (asQ g n fn ins pro)), ex (He.frT g (asQ g n fn ins pro)) && He.tabsB g tf (He.frT g (asQ g n fn ins pro))), ins.map fun d => fnI (He.frT g (asQ g n fn ins pro)) d.at_), pro.map fun d => fnP (He.frT g (asQ g n fn ins pro)) (d.g (He.frT g (asQ g n fn ins pro))))
theorem saysQ_of {w : World} {h : Heap} (e : obsQ n fa fn tf ex ins pro h.get? = ((He.valX fn [] w, ins.map IniD.val), pro.map ProD.val)) : SaysP fa fn tf ex ins pro w h (He.frT h.get? (asQ h.get? n fn ins pro)) := by
  generalize hK : He.frT h.get? (asQ h.get? n fn ins pro) = K at *
  have e1 : He.obsT fa fn [] K = He.valT fn [] w := by
    have z := congrArg (fun z : AlP => z.1.1.1) e
    unfold obsQ at z
    rw [hK] at z
    exact z
  have e2 : (ex K && He.tabsB h.get? tf K) = true := by
    have z := congrArg (fun z : AlP => z.1.1.2) e
    unfold obsQ at z
    rw [hK] at z
    exact z
  have e3 : (ins.map fun d => fnI K d.at_) = ins.map IniD.val := by
    have z := congrArg (fun z : AlP => z.1.2) e
    unfold obsQ at z
    rw [hK] at z
    exact z
  have e4 : (pro.map fun d => fnP K (d.g K)) = pro.map ProD.val := by
    have z := congrArg (fun z : AlP => z.2) e
    unfold obsQ at z
    rw [hK] at z
    exact z
  obtain ⟨h1, h2⟩ := ba e2
  have tabs : ∀ p ∈ tf, PySem.W.codeHdIn K (He.cT K p).1 (He.cT K p).2 = true ∧ ∃ o, h.get? (He.cT K p).2 = some o ∧ He.emptyTab o = true := fun p hp => by
    obtain ⟨h3, h4⟩ := ba (List.all_eq_true.mp h2 p hp)
    match q : h.get? (He.cT K p).2 with
    | none =>
      rw [q] at h4
      cases h4
    | some o =>
      rw [q] at h4
      exact ⟨h3, o, rfl, h4⟩
  refine ⟨⟨⟨e1, h1, fun p hp => (tabs p hp).1, fun p hp => ?_, fun p hp => ?_⟩, fun d hd => ?_⟩, fun d hd => ?_⟩
  · obtain ⟨_, o, q, z⟩ := tabs p hp
    rw [← hK] at q ⊢
    exact He.frT_none q z
  · obtain ⟨_, o, q, z⟩ := tabs p hp
    rw [q, He.emptyTab_eq z]
  · exact List.map_inj_left.mp e3 d hd
  · exact List.map_inj_left.mp e4 d hd
def hookQ (n : Nat) (fa : List Fa) (fn : List DefD) (tf : List Defn) (ex : PySem.W.Frag → Bool) (ins : List IniD) (pro : List ProD) : PySem.W.Hook where
  α := AlP
  obs := fun s => obsQ n fa fn tf ex ins pro s.heap.get?
  val := fun w => ((He.valX fn [] w, ins.map IniD.val), pro.map ProD.val)
  says := fun w h => ∃ K : PySem.W.Frag, K.In h ∧ SaysP fa fn tf ex ins pro w h K
  of := fun _ _ e => ⟨_, He.frT_in, saysQ_of e⟩
  keeps := fun _ _ _ ⟨K, hK, c⟩ k => ⟨K, PySem.W.Frag.In.keeps hK k, ⟨⟨c.i.x.t, c.i.x.more, c.i.x.hd, c.i.x.out, fun p hp => k _ _ (c.i.x.empty p hp)⟩, c.i.ini⟩, c.pro_⟩
theorem obsQ_eq {g : Addr → Option Obj} {s : Shared} (h : ∀ a, g a = s.heap.get? a) : obsQ n fa fn tf ex ins pro g = (hookQ n fa fn tf ex ins pro).obs s := by
  have e : g = s.heap.get? := funext h
  rw [e] <;> rfl
end
end VG

set_option maxRecDepth 100000
/-! Statements that are not reached; comprehensions within comprehensions; heaps without some objects; lists that grow; methods called with keywords. -/
namespace VG
open PySem PySem.Spec PyProof.Rows L2
theorem ps_false {X : Cx} {st : Stmt} : PS X st (fun _ _ _ => False) := ⟨fun _ _ _ _ _ _ h => h.elim⟩
theorem pss_false {X : Cx} {st : List Stmt} : PSs X st (fun _ _ _ => False) := ⟨fun _ _ _ _ _ _ h => h.elim⟩
/-! ### scopes of comprehensions within comprehensions -/
def retE (st : Stmt) : Expr := match (defBody st).getLast? with
  | some (.Return (some e) _) => e
  | _ => .List [] ⟨0, 0, 0, 0⟩
def lcScope (d : Scope) : Expr → Scope
  | .ListComp _ _ sc _ => sc
  | _ => d
def lcElt : Expr → Expr
  | .ListComp e _ _ _ => e
  | e => e
theorem blkOk_in {N : List Str} {sc sc' scope : Scope} {own : List (Str × Nat)} (e : sc' = sc) (h : blkC N sc scope own = true) : BlkOk N sc' scope own := by
  subst e
  exact blkOk_by h
/-! ### heaps without some objects -/
def wos (S : List Addr) (G : Hp) : Hp := fun b => if b ∈ S then none else G b
theorem wos_in {S : List Addr} {G : Hp} {b : Addr} (h : b ∈ S) : wos S G b = none := if_pos h
theorem wos_out {S : List Addr} {G : Hp} {b : Addr} (h : b ∉ S) : wos S G b = G b := if_neg h
theorem wos_mono {S S' : List Addr} {G G' : Hp} (s : ∀ b ∈ S', b ∈ S) (e : Same G G') : Same (wos S G) (wos S' G') := fun b o h => by
  by_cases z : b ∈ S
  · rw [wos_in z] at h
    cases h
  · rw [wos_out z] at h
    rw [wos_out fun y => z (s b y)]
    exact e b o h
theorem wos_sub {S : List Addr} {G : Hp} : Same (wos S G) G := fun b o h => by
  by_cases z : b ∈ S
  · rw [wos_in z] at h
    cases h
  · rw [wos_out z] at h
    exact h
theorem wos_less {S S' : List Addr} {G : Hp} (s : ∀ b ∈ S', b ∈ S) : Same (wos S G) (wos S' G) := wos_mono s (Same.refl G)
theorem wos_upd {S : List Addr} {G : Hp} {T : Addr} {o : HO} (h : T ∈ S) : wos S (upd G T o) = wos S G := by
  funext b
  by_cases z : b ∈ S
  · rw [wos_in z, wos_in z]
  · rw [wos_out z, wos_out z, upd_ne fun y => z (by rw [y]; exact h)]
/-- all that is not in S stays -/
abbrev Exs (S : List Addr) (H H' : Hp) : Prop := Same (wos S H) (wos S H')
theorem Exs.of {S : List Addr} {G G' : Hp} (e : Same G G') : Exs S G G' := wos_mono (fun _ h => h) e
theorem Exs.but {S : List Addr} {p : Addr} {G G' : Hp} (h : p ∈ S) (e : ∀ b, b ≠ p → G' b = G b) : Exs S G G' := fun b o z => by
  by_cases y : b ∈ S
  · rw [wos_in y] at z
    cases z
  · rw [wos_out y] at z ⊢
    exact (e b fun x => y (x ▸ h)).trans z
theorem Exs.upd {S : List Addr} {G : Hp} {T : Addr} {o : HO} (h : T ∈ S) : Exs S G (upd G T o) := by
  intro b u z
  rw [wos_upd h]
  exact z
theorem Exs.on {S : List Addr} {G G' : Hp} {b : Addr} {o : HO} (e : Exs S G G') (h : b ∉ S) (z : G b = some o) : G' b = some o := by
  have y := e b o (by rw [wos_out h]; exact z)
  rw [wos_out h] at y
  exact y
theorem Exs.mono {S S' : List Addr} {G G' : Hp} (s : ∀ b ∈ S, b ∈ S') (e : Exs S G G') : Exs S' G G' := fun b o z => by
  by_cases y : b ∈ S'
  · rw [wos_in y] at z
    cases z
  · rw [wos_out y] at z ⊢
    exact e.on (fun x => y (s b x)) z
/-- a list that grows at D: what is in it so far stands without D and S -/
structure Acc (K : PySem.W.Frag) (S : List Addr) (D : Addr) (H : Hp) (ds : List PyData) : Prop where
  ex : ∃ acc, H D = some (.lst acc) ∧ DpAll K (wos (D :: S) H) acc ds
theorem Acc.start {K : PySem.W.Frag} {S : List Addr} {D : Addr} {H : Hp} : Acc K S D (upd H D (.lst [])) [] := ⟨⟨[], upd_same, .nil⟩⟩
theorem Acc.on {K : PySem.W.Frag} {S : List Addr} {D : Addr} {H H2 : Hp} {ds : List PyData} (c : Acc K S D H ds) (e : Exs (D :: S) H H2) (hD : ∀ o, H D = some o → H2 D = some o) : Acc K S D H2 ds := by
  obtain ⟨acc, h1, h2⟩ := c.ex
  exact ⟨⟨acc, hD _ h1, DpAll.same e _ _ h2⟩⟩
theorem Acc.more {K : PySem.W.Frag} {S : List Addr} {D : Addr} {H : Hp} {ds : List PyData} {d : PyData} {y : V} (c : Acc K S D H ds) (hy : Dp K (wos (D :: S) H) y d) :
    ∃ acc, H D = some (.lst acc) ∧ acc.length = ds.length ∧ Acc K S D (upd H D (.lst (acc ++ [y]))) (ds ++ [d]) := by
  obtain ⟨acc, h1, h2⟩ := c.ex
  refine ⟨acc, h1, DpAll.len h2, ⟨⟨_, upd_same, ?_⟩⟩⟩
  rw [wos_upd List.mem_cons_self]
  exact VG.DpAll.snoc hy h2
theorem Acc.done {K : PySem.W.Frag} {S : List Addr} {D : Addr} {H : Hp} {ds : List PyData} (c : Acc K S D H ds) (h : D ∉ S) : Dp K (wos S H) (.ref D) (.list ds) := by
  obtain ⟨acc, h1, h2⟩ := c.ex
  exact .lst (SqL.of (by rw [wos_out h]; exact h1)) (DpAll.same (wos_less fun b z => List.mem_cons_of_mem _ z) _ _ h2)
/-- what a list of data is -/
theorem dp_list {K : PySem.W.Frag} {H : Hp} {v : V} {ds : List PyData} (h : Dp K H v (.list ds)) : ∃ a xs, v = .ref a ∧ SqL K H a xs ∧ DpAll K H xs ds := by
  cases h with
  | lst a b => exact ⟨_, _, rfl, a, b⟩
theorem dp_tup {K : PySem.W.Frag} {H : Hp} {v : V} {ds : List PyData} (h : Dp K H v (.tuple ds)) : ∃ a xs, v = .ref a ∧ SqT K H a xs ∧ DpAll K H xs ds := by
  cases h with
  | tup a b => exact ⟨_, _, rfl, a, b⟩
theorem dp_int {K : PySem.W.Frag} {H : Hp} {v : V} {i : Int} (h : Dp K H v (.int i)) : v = .int i := by
  cases h
  rfl
theorem dp_bl {K : PySem.W.Frag} {H : Hp} {v : V} {i : Bool} (h : Dp K H v (.bool i)) : v = .bl i := by
  cases h
  rfl
theorem dpAll2 {K : PySem.W.Frag} {H : Hp} {xs : List V} {a b : PyData} (h : DpAll K H xs [a, b]) : ∃ x y, xs = [x, y] ∧ Dp K H x a ∧ Dp K H y b := by
  cases h with
  | cons h t =>
    cases t with
    | cons h' t =>
      cases t
      exact ⟨_, _, rfl, h, h'⟩
theorem dpAll3 {K : PySem.W.Frag} {H : Hp} {xs : List V} {a b c : PyData} (h : DpAll K H xs [a, b, c]) : ∃ x y z, xs = [x, y, z] ∧ Dp K H x a ∧ Dp K H y b ∧ Dp K H z c := by
  cases h with
  | cons h t =>
    obtain ⟨y, z, rfl, h2, h3⟩ := dpAll2 t
    exact ⟨_, _, _, rfl, h, h2, h3⟩
theorem DpAll.app {K : PySem.W.Frag} {H : Hp} : ∀ {xs ys : List V} {ds es : List PyData}, DpAll K H xs ds → DpAll K H ys es → DpAll K H (xs ++ ys) (ds ++ es)
  | _, _, _, _, .nil, h => h
  | _, _, _, _, .cons a t, h => .cons a (DpAll.app t h)
theorem DpAll.dropn {K : PySem.W.Frag} {H : Hp} : ∀ (n : Nat) {xs : List V} {ds : List PyData}, DpAll K H xs ds → DpAll K H (xs.drop n) (ds.drop n)
  | 0, _, _, h => h
  | n + 1, _, _, .nil => .nil
  | n + 1, _, _, .cons _ t => DpAll.dropn n t
theorem DpAll.takn {K : PySem.W.Frag} {H : Hp} : ∀ (n : Nat) {xs : List V} {ds : List PyData}, DpAll K H xs ds → DpAll K H (xs.take n) (ds.take n)
  | 0, _, _, _ => .nil
  | n + 1, _, _, .nil => .nil
  | n + 1, _, _, .cons a t => .cons a (DpAll.takn n t)
/-! ### methods called with keywords -/
/-- o.m(e, .., k = v, ..) -/
def tMethN (C : Addr) (m : Str) (n j : Nat) (sp : Sp) (gV : List V → List V → List V) (E : XK) (ta : TE) (t tk : TA) : TE := fun σ H Q => ta σ H fun x H1 => ∃ a dx fs, x = .ref a ∧ H1 a = some (.ins C dx fs) ∧ fs.lookup m = none ∧
  t σ H1 fun vs H2 => tk σ H2 fun zs H3 => vs.length = n ∧ zs.length = j ∧ sp (gV (x :: vs) zs) H3 Q E
section
variable {X : Cx} {CX : CXT} {k n : Nat} {C f : Addr} {m : Str} {fd : FuncData} {ps ks : List Str} {sp : Sp} {E : XK} {o e : Expr} {es : List Expr} {apos pos : Pos} {kws : List Keyword} {ta : TE} {t tk : TA} {g : List Value → List Value → List Value} {gV : List V → List V → List V}
theorem pe_methN {pl : Sem Bool} (he : PE X o ta) (c : Cls X.K C) (hm : Meth X.K C m f) (F : FnOk X.prog X.w X.K X.mg X.base CX k f fd ps sp) (hr : Room k X.A) (hb : KBn X.K fd ps (n + 1) ks g gV) (hx : Passes CX X E) (ha : PA X (e :: es) t) (hkw : PK X kws tk)
    (hall : (backToKw pos (keywordEach kws X.env)).all (·.1.isSome) = true := by rfl) (hks : (backToKw pos (keywordEach kws X.env)).filterMap (·.1) = ks := by rfl)
    (hst : starEach (e :: es) X.env = (false, eval e X.env) :: starEach es X.env := by rfl) (hpl : ((backTo pos (starEach (e :: es) X.env)).any (·.1) || (backToKw pos (keywordEach kws X.env)).any (·.1.isNone)) = false := by rfl)
    (ht : eval (.Call (.Attribute o m apos) (e :: es) kws pos) X.env = (do
      let ov ← eval o X.env
      standAt apos.atName
      let (f, first) ← holding [ov] (getMethod ov m pl)
      callWith pos f first (backTo pos (starEach (e :: es) X.env)) (backToKw pos (keywordEach kws X.env))) := by rfl) :
    PE X (.Call (.Attribute o m apos) (e :: es) kws pos) (tMethN C m n ks.length sp gV E ta t tk) := by
  refine ⟨fun pins s σ H Q I h => ?_⟩
  refine PySem.W.methodCall_KW (pl := pl) (thn (he.run pins s σ H _ I h) fun u s1 ⟨x, H1, I1, rx, a, dx, fs, ex, ea, l, q⟩ => ?_) ht
  subst ex
  obtain rfl : u = Value.ref a := rx
  refine getmeth_ok I1 ea c hm l ?_
  refine PySem.W.callWith_KW (first := [.ref a]) (h₀ := X.base) I.ok.mod.kin hm.kp hall (thn (ha.run pos pins s1 σ H1 _ I1 q) fun us s2 ⟨vs, H2, I2, r, q2⟩ => ?_) hpl hst
  refine thn (hkw.run pos pins s2 σ H2 _ I2 q2) fun ws s3 ⟨zs, H3, I3, rz, l1, l2, q3⟩ => ⟨I3.kIn, ?_⟩
  rw [hks]
  exact run_fnN (us := .ref a :: us) (vs := .ref a :: vs) F hr hb hx I3 (.cons rfl r) rz (by rw [List.length_cons, l1]) l2 q3
/-- o.m(k = v, ..) -/
theorem pe_methN0 {pl : Sem Bool} (he : PE X o ta) (c : Cls X.K C) (hm : Meth X.K C m f) (F : FnOk X.prog X.w X.K X.mg X.base CX k f fd ps sp) (hr : Room k X.A) (hb : KBn X.K fd ps 1 ks g gV) (hx : Passes CX X E) (hkw : PK X kws tk)
    (hall : (backToKw pos (keywordEach kws X.env)).all (·.1.isSome) = true := by rfl) (hks : (backToKw pos (keywordEach kws X.env)).filterMap (·.1) = ks := by rfl)
    (hpl : ((backTo pos (starEach [] X.env)).any (·.1) || (backToKw pos (keywordEach kws X.env)).any (·.1.isNone)) = false := by rfl)
    (ht : eval (.Call (.Attribute o m apos) [] kws pos) X.env = (do
      let ov ← eval o X.env
      standAt apos.atName
      let (f, first) ← holding [ov] (getMethod ov m pl)
      callWith pos f first (backTo pos (starEach [] X.env)) (backToKw pos (keywordEach kws X.env))) := by rfl) :
    PE X (.Call (.Attribute o m apos) [] kws pos) (tMethN C m 0 ks.length sp gV E ta tNil tk) := by
  refine ⟨fun pins s σ H Q I h => ?_⟩
  refine PySem.W.methodCall_KW (pl := pl) (thn (he.run pins s σ H _ I h) fun u s1 ⟨x, H1, I1, rx, a, dx, fs, ex, ea, l, q⟩ => ?_) ht
  subst ex
  obtain rfl : u = Value.ref a := rx
  refine getmeth_ok I1 ea c hm l ?_
  refine PySem.W.callWith_KW0 (first := [.ref a]) (h₀ := X.base) I.ok.mod.kin hm.kp hall (thn (hkw.run pos pins s1 σ H1 _ I1 q) fun ws s3 ⟨zs, H3, I3, rz, l1, l2, q3⟩ => ⟨I3.kIn, ?_⟩) hpl
  rw [hks]
  exact run_fnN (us := [.ref a]) (vs := [.ref a]) F hr hb hx I3 (.cons rfl .nil) rz rfl l2 q3
end
end VG

set_option maxRecDepth 100000
/-! x + y, x * y by an own __add__, __mul__: y of the same class, or of a built-in type. -/
namespace VG
open PySem PySem.Spec PyProof.Rows PySem.W L2
section
variable {prog : Program} {w : World} {A : Around} {E : Value → Shared → Prop} {s : Shared} {K : Frag} {x C L f : Addr} {h₀ : Heap} {m : Str → Option Value} {ox : Obj} {od : Option Obj} {T : String}
/-- the right side of a built-in type, wherever it stands -/
theorem binT {op : Operator} {b : Value} {fo ro rc : Option Value} {Q : Value → Shared → Prop} (F : Fr h₀ L s.heap m) (X₀ : K.In h₀) (I : InstAt s.heap x ox C od) (hb : Looks (model prog w) s.heap (typeOf b) (.type T)) (hc : selfFirst K C = true)
    (hs : findIn K (.ref C) (PySem.dunder op.info.2) = some (some (.ref f))) (hf : isFn K (.ref f) = true) (hr : findIn K (.ref C) (dunderR op.info.2) = some rc) (hp : rc = none ∨ ∃ g : Addr, rc = some (.ref g))
    (h1 : findIn K (.type T) (PySem.dunder op.info.2) = some fo) (h2 : findIn K (.type T) (dunderR op.info.2) = some ro) (hsub : subIn K (.type T) (.ref C) = some false)
    (h : wpAny (model prog w) A (call (.ref f) [.ref x, b]) (PySem.W.CmpBack Q) E s) : wpAny (model prog w) A (binaryOp op (.ref x) b) Q E s := by
  have X := X₀.keeps F.keep
  obtain ⟨cd, rest, hcd, hm⟩ := ksp_first hc
  rcases hi : op.info with ⟨sym, nm⟩
  rw [hi] at hs hr h1 h2
  have own := ksp_try X I hs hf h
  obtain ⟨hh, g, d, tt, os⟩ := s
  have tx : Looks (model prog w) hh (typeOf (.ref x)) (.ref C) := I.type
  have ty : Looks (model prog w) hh (typeOf b) (.type T) := hb
  have fx : Looks (model prog w) hh (fillsNumberSlot (.ref C) nm) true := fills_K X hcd hm hs
  have fy := ksp_fillsT (M := model prog w) X h1 h2
  have sy : Looks (model prog w) hh (isSubtype (.type T) (.ref C)) false := looks_subIn X hsub
  have px : Looks (model prog w) hh (numberSlotInPython (.ref C) nm) true := ksp_inPy X hs hr hp
  have py : Looks (model prog w) hh (numberSlotInPython (.type T) nm) false := Looks.of_pure rfl
  have ly : Looks (model prog w) hh (typeLookup (.type T) (dunderR nm)) ro := looks_findIn X h2
  generalize ((fo.isSome && !isSeqSlot fo) || (ro.isSome && !isSeqSlot ro)) = right at fy
  have ne : (Value.ref C == Value.type T) = false := rfl
  simp only [binaryOp, hi]
  refine wpAny_holding (wpAny_bind ?_)
  unfold binaryOp1
  refine wpAny_bind (tx.at (wpAny_bind (ty.at (wpAny_bind (fx.at ?_)))))
  simp only [ne, Bool.false_eq_true, if_false]
  cases right <;>
  · ksp_lk
    refine wpAny_mono own (fun r s' z => ?_) fun _ _ e => e
    obtain ⟨v, rfl, q⟩ := z
    ksp_lk
    exact q
end
section
variable {X : Cx} {CX : CXT} {C g : Addr} {n : Nat} {sp : Sp} {E : XK}
/-- x op y, x an instance of C, whose own method stands at g; y an instance of C too -/
def rBinS (C : Addr) (sp : Sp) (E : XK) : R2 := fun x y H Q => ∃ a dx fs b dy gs, x = .ref a ∧ y = .ref b ∧ H a = some (.ins C dx fs) ∧ H b = some (.ins C dy gs) ∧ sp [x, y] H Q E
theorem op_binS {op : Operator} (hs : findIn X.K (.ref C) (PySem.dunder op.info.2) = some (some (.ref g))) (hf : isFn X.K (.ref g) = true) (hc : selfFirst X.K C = true) (F : FnR X.prog X.w X.K X.mg X.base CX n g sp) (hr : Room n X.A) (hx : Passes CX X E) : OpR X (binaryOp op) (rBinS C sp E) := by
  intro pins s σ H x y v u Q I rx ry h
  obtain ⟨a, dx, fs, b, dy, gs, rfl, rfl, ha, hb, q⟩ := h
  cases (show v = Value.ref a from rx)
  cases (show u = Value.ref b from ry)
  obtain ⟨od, J⟩ := ins_inst I ha
  obtain ⟨od2, J2⟩ := ins_inst I hb
  obtain ⟨m, hF⟩ := I.fr
  refine binop_K hF I.ok.mod.kin J J2.type hc hs hf ?_
  refine wpAny_mono (wpAny_call (run_fnR (us := [.ref a, .ref b]) (vs := [.ref a, .ref b]) F hr hx I (.cons rfl (.cons rfl .nil)) q)) (fun w s' z => ?_) fun _ _ x => x
  obtain ⟨z', H', I', rz, qz⟩ := z
  exact SlX.cmpback rz ⟨z', H', I', rz, qz⟩
/-- x op y, y of a built-in type -/
def rBinT (K : Frag) (C : Addr) (ts : List String) (sp : Sp) (E : XK) : R2 := fun x y H Q => ∃ a dx fs t, x = .ref a ∧ H a = some (.ins C dx fs) ∧ TyX K H y (.type t) ∧ t ∈ ts ∧ sp [x, y] H Q E
/-- what the class, the types must say -/
structure BinK (K : Frag) (C g : Addr) (op : Operator) (ts : List String) : Prop where
  self : findIn K (.ref C) (PySem.dunder op.info.2) = some (some (.ref g))
  fn : isFn K (.ref g) = true
  first : selfFirst K C = true
  refl : findIn K (.ref C) (dunderR op.info.2) = some none
  ty : ∀ t ∈ ts, (∃ fo, findIn K (.type t) (PySem.dunder op.info.2) = some fo) ∧ (∃ ro, findIn K (.type t) (dunderR op.info.2) = some ro) ∧ subIn K (.type t) (.ref C) = some false
theorem op_binT {op : Operator} {ts : List String} (B : BinK X.K C g op ts) (F : FnR X.prog X.w X.K X.mg X.base CX n g sp) (hr : Room n X.A) (hx : Passes CX X E) : OpR X (binaryOp op) (rBinT X.K C ts sp E) := by
  intro pins s σ H x y v u Q I rx ry h
  obtain ⟨a, dx, fs, t, rfl, ha, ty, ht, q⟩ := h
  cases (show v = Value.ref a from rx)
  obtain ⟨od, J⟩ := ins_inst I ha
  obtain ⟨P, kx, kp, _⟩ := kit_of I ry ty
  obtain ⟨m, hF⟩ := I.fr
  obtain ⟨⟨fo, h1⟩, ⟨ro, h2⟩, h3⟩ := B.ty t ht
  refine binT hF I.ok.mod.kin J (kx.ty _ _ I.kIn kp) B.first B.self B.fn B.refl (.inl rfl) h1 h2 h3 ?_
  refine wpAny_mono (wpAny_call (run_fnR (us := [.ref a, u]) (vs := [.ref a, y]) F hr hx I (.cons rfl (.cons ry .nil)) q)) (fun w s' z => ?_) fun _ _ x => x
  obtain ⟨z', H', I', rz, qz⟩ := z
  exact SlX.cmpback rz ⟨z', H', I', rz, qz⟩
end
end VG

set_option maxRecDepth 100000
/-! Bools of a head: an own binary operator, a tuple of the top. -/
namespace VG
open PySem PySem.Spec PyProof.Rows PySem.W L2
def binB (K : Frag) (C g : Addr) (op : Operator) (ts : List String) : Bool :=
  decide (findIn K (.ref C) (PySem.dunder op.info.2) = some (some (.ref g))) && (isFn K (.ref g) && (selfFirst K C && (decide (findIn K (.ref C) (dunderR op.info.2) = some none) &&
    ts.all fun t => (findIn K (.type t) (PySem.dunder op.info.2)).isSome && ((findIn K (.type t) (dunderR op.info.2)).isSome && decide (subIn K (.type t) (.ref C) = some false)))))
theorem binB_ok {K : Frag} {C g : Addr} {op : Operator} {ts : List String} (h : binB K C g op ts = true) : BinK K C g op ts := by
  obtain ⟨h1, h⟩ := He.ba h
  obtain ⟨h2, h⟩ := He.ba h
  obtain ⟨h3, h⟩ := He.ba h
  obtain ⟨h4, h5⟩ := He.ba h
  refine ⟨of_decide_eq_true h1, h2, h3, of_decide_eq_true h4, fun t ht => ?_⟩
  obtain ⟨a, b⟩ := He.ba (List.all_eq_true.mp h5 t ht)
  obtain ⟨b, c⟩ := He.ba b
  exact ⟨Option.isSome_iff_exists.mp a, Option.isSome_iff_exists.mp b, of_decide_eq_true c⟩
def plainB (K : Frag) (x : Str) : Bool := match K.lookup (He.ga K x) with
  | some ⟨.type c, none, _, _⟩ => decide (c = "tuple")
  | _ => false
theorem plainB_ok {K : Frag} {x : Str} (h : plainB K x = true) : ∃ o, K.lookup (He.ga K x) = some o ∧ o.cls = Value.type "tuple" ∧ o.dict = none := by
  unfold plainB at h
  split at h
  · rename_i c d s q
    exact ⟨_, q, congrArg Value.type (of_decide_eq_true h), rfl⟩
  · cases h
end VG

set_option maxRecDepth 100000
namespace Lw
open PySem L2 VG
def topS (i : Nat) : Stmt := PySem.Challenge.pw_missingmiles_k12_answers_told.main.body.getD i (.Pass ⟨0, 0, 0, 0⟩)
abbrev s__wall : Stmt := topS 1
abbrev s_copied : Stmt := topS 3
abbrev s_listed : Stmt := topS 4
abbrev s_MilesError : Stmt := topS 6
abbrev s_InvalidRatio : Stmt := topS 7
abbrev s_InvalidNumber : Stmt := topS 8
abbrev s_InvalidRow : Stmt := topS 9
abbrev s__is_whole : Stmt := topS 13
abbrev s_is_number : Stmt := topS 14
abbrev s_is_ratio : Stmt := topS 15
abbrev s_can_be_ratio : Stmt := topS 16
abbrev s__lowest : Stmt := topS 17
abbrev s_ratio : Stmt := topS 18
abbrev s_ratio_of : Stmt := topS 19
abbrev s_added : Stmt := topS 20
abbrev s_multiplied : Stmt := topS 21
abbrev s_is_less : Stmt := topS 22
abbrev s__figures : Stmt := topS 23
abbrev s_ratio_text : Stmt := topS 24
abbrev s__scale : Stmt := topS 26
abbrev s__scaled : Stmt := topS 27
abbrev s__first : Stmt := topS 28
abbrev s_Tableau : Stmt := topS 29
abbrev s_are_factors : Stmt := topS 31
abbrev s_are_weights : Stmt := topS 32
abbrev s_ratios_of : Stmt := topS 33
abbrev s_weighted : Stmt := topS 34
abbrev s_weighted_row : Stmt := topS 35
abbrev s__row_of : Stmt := topS 39
abbrev s__rows_of : Stmt := topS 40
abbrev s__is_kept : Stmt := topS 41
abbrev s__tableau : Stmt := topS 42
abbrev s__barring_weights : Stmt := topS 43
abbrev s_Problem : Stmt := topS 44
abbrev s_Answer : Stmt := topS 45
abbrev s_Solved : Stmt := topS 46
abbrev s_Barred : Stmt := topS 47
abbrev s_Top : Stmt := topS 48
abbrev s_Endless : Stmt := topS 49
abbrev sSource : Stmt := topS 51
abbrev sDraw : Stmt := topS 52
abbrev sOf : Stmt := topS 53
abbrev sSame : Stmt := topS 54
abbrev s__law_low : Stmt := topS 55
abbrev s__law_wide : Stmt := topS 56
abbrev s__law_pair : Stmt := topS 57
abbrev s__law_text : Stmt := topS 58
abbrev sLaw : Stmt := topS 59
/-! ### the source of draws -/
def srcL (q : Addr) (i c seed n : Int) : List V := [.ref q, .int i, .int c, .int seed, .int n]
structure Src (H : Hp) (p q : Addr) (cells : List Int) : Prop where
  ex : ∃ i c seed n : Int, H p = some (.lst (srcL q i c seed n)) ∧ 0 ≤ i ∧ 0 ≤ c
  cs : H q = some (.lst (cells.map V.int))
  few : cells.length ≤ 63
  ne : p ≠ q
/-- all but p is as it was -/
def But (p : Addr) (H H' : Hp) : Prop := ∀ b, b ≠ p → H' b = H b
theorem But.refl (p : Addr) (H : Hp) : But p H H := fun _ _ => rfl
theorem But.trans {p : Addr} {H H1 H2 : Hp} (a : But p H H1) (b : But p H1 H2) : But p H H2 := fun c n => (b c n).trans (a c n)
theorem But.upd {p : Addr} {H : Hp} {o : HO} : But p H (upd H p o) := fun _ n => upd_ne n
def spSource (K : PySem.W.Frag) : Sp := fun vs H Q _ => ∃ (a : Addr) (ns : List Int), vs = [.ref a] ∧ SqL K H a (ns.map V.int) ∧ ns.length ≤ 63 ∧
  ∀ (p q : Addr) (H' : Hp), H p = none → H q = none → Same H H' → Src H' p q ns → Q (.ref p) H'
def spDraw : Sp := fun vs H Q _ => ∃ (p q : Addr) (cells : List Int) (m : Int), vs = [.ref p, .int m] ∧ Src H p q cells ∧ 0 < m ∧ m < 2 ^ 100 ∧
  ∀ (r : Int) (H' : Hp), 0 ≤ r → r < m → Src H' p q cells → But p H H' → Q (.int r) H'
/-- what the law's helpers ask of the names of the top -/
structure Nm (mg : Str → Option Value) : Prop where
  int : mg "int" = none
  len : mg "len" = none
  list : mg "list" = none
  repr : mg "repr" = none
section
variable {P : Program} {w : World} {K : PySem.W.Frag} {mg : Str → Option Value} {base : Heap}
theorem scSource : FnScope ["_law_script", "_law_seed", "_law_cell"] ["_law_script"] (defScope sSource) := ⟨rfl, rfl, rfl, by decide +kernel, rfl, by decide +kernel, by decide +kernel⟩
theorem scDraw : FnScope ["_law_src", "_law_many", "_law_cell", "_law_digit", "_law_root", "_law_grown"] ["_law_src", "_law_many"] (defScope sDraw) := ⟨rfl, rfl, rfl, by decide +kernel, rfl, by decide +kernel, by decide +kernel⟩
theorem ok_draw {f : Addr} {fd : FuncData} (F : Fun K "_law_draw" "_law_draw" sDraw f fd) (T : Nm mg) : FnOk P w K mg base CX0 1 f fd ["_law_src", "_law_many"] spDraw := by
  refine F.ok scDraw (fun vs H Q E h => ?_) (fun cdv A outer s H vs Q E hr h => ?_)
  · obtain ⟨p, q, cells, m, rfl, _⟩ := h
    rfl
  · obtain ⟨p, q, cells, m, rfl, ⟨⟨i, c, seed, n, hp, hi, hc⟩, hq, hfew, hne⟩, hm0, hm1, k⟩ := h
    have nd := scDraw.nd
    refine ⟨_, C8.pss_cut (ps_if (PW.pt (pw_and (pt_cmpR op_lt (pe_ix ix_list (pv 0) pe_int fun _ _ => rfl) (pv 1) (nomark _))
          (pw_and1 (pt_cmpR op_lt (pe_ix ix_list (pv 0) pe_int fun _ _ => rfl) (pe_callB call_len_seq (by rfl) T.len PySem.boot_len (pa_cons (pe_ix ix_list (pv 0) pe_int fun _ _ => rfl) pa_nil)) (nomark _)))))
        (pss_cons (ps_set (i := 2) nd rfl (Or.inl rfl) (pe_ix ix_list (pe_ix ix_list (pv 0) pe_int fun _ _ => rfl) (pe_ix ix_list (pv 0) pe_int fun _ _ => rfl) fun _ _ => rfl))
        (pss_cons (ps_asg (pe_op op_add (pe_ix ix_list (pv 0) pe_int fun _ _ => rfl) pe_int) (pg_sub (pv 0) pe_int set_list))
        (pss_cons (ps_asg (pe_op op_mod (pe_callTy call_int1 (by rfl) T.int (by decide +kernel) (pa_cons (pe_op op_add (pe_op op_add (pe_op op_mul (pe_ix ix_list (pv 0) pe_int fun _ _ => rfl) pe_int)
            (pe_op op_mod (pe_callTy call_int1 (by rfl) T.int (by decide +kernel) (pa_cons (pv 2) pa_nil)) pe_int)) pe_int) pa_nil)) pe_int) (pg_sub (pv 0) pe_int set_list))
        (pss_one (ps_asg (pe_ifExp (pt_cmpR op_ge (pv 2) (pe_op op_pow pe_int pe_int) (nomark _)) (pv 2) pe_int) (pg_sub (pv 0) pe_int set_list)))))) pss_nil)
      (pss_cons (ps_if (pt_cmpR op_ge (pe_ix ix_list (pv 0) pe_int fun _ _ => rfl) (pv 1) (nomark _))
        (pss_cons (ps_set (i := 3) nd rfl (Or.inl rfl) (pe_op op_mod (pe_callTy call_int1 (by rfl) T.int (by decide +kernel) (pa_cons (pe_ix ix_list (pv 0) pe_int fun _ _ => rfl) pa_nil)) (pv 1)))
        (pss_cons (ps_asg (pe_op op_fdivW (pe_ix ix_list (pv 0) pe_int fun _ _ => rfl) (pv 1)) (pg_sub (pv 0) pe_int set_list))
        (pss_one (ps_ret (pv 3))))) pss_nil)
      (pss_cons (ps_asg (pe_op op_add (pe_ix ix_list (pv 0) pe_int fun _ _ => rfl) pe_int) (pg_sub (pv 0) pe_int set_list))
      (C8.pss_cut (ps_set (i := 4) nd rfl (Or.inl rfl) (pe_op op_mod (pe_callTy call_int1 (by rfl) T.int (by decide +kernel) (pa_cons (pe_op op_add (pe_ix ix_list (pv 0) pe_int fun _ _ => rfl)
          (pe_op op_mul (pe_ix ix_list (pv 0) pe_int fun _ _ => rfl) pe_int)) pa_nil)) pe_int))
      (pss_cons (ps_set (i := 5) nd rfl (Or.inl rfl) (pe_op op_mul (pe_op op_mod (pe_callTy call_int1 (by rfl) T.int (by decide +kernel) (pa_cons (pe_op op_mul (pv 4) (pv 4)) pa_nil)) pe_int)
          (pe_op op_add (pe_op op_mod (pe_callTy call_int1 (by rfl) T.int (by decide +kernel) (pa_cons (pv 4) pa_nil)) pe_int) pe_int)))
      (pss_cons (ps_asg (pe_op op_mod (pe_callTy call_int1 (by rfl) T.int (by decide +kernel) (pa_cons (pe_op op_add (pe_op op_add (pv 5) (pe_op op_mul pe_int (pv 4))) pe_int) pa_nil)) pe_int) (pg_sub (pv 0) pe_int set_list))
      (pss_one (ps_ret (pe_op op_mod (pe_callTy call_int1 (by rfl) T.int (by decide +kernel) (pa_cons (pe_op op_add (pe_op op_fdiv (pe_ix ix_list (pv 0) pe_int fun _ _ => rfl) pe_int)
          (pe_op op_mul (pe_op op_mod (pe_callTy call_int1 (by rfl) T.int (by decide +kernel) (pa_cons (pe_ix ix_list (pv 0) pe_int fun _ _ => rfl) pa_nil)) pe_int) pe_int)) pa_nil)) (pv 1))))))))), ?_⟩
    -- behind the first if the source is as it may be
    refine ⟨fun σ H1 => ∃ cell, σ = [some (.ref p), some (.int m), cell, none, none, none] ∧ Src H1 p q cells ∧ But p H H1, ?_, ?_⟩
    · refine ⟨_, rfl, _, _, _, _, rfl, rfl, SqL.of hp, rfl, _, rfl, _, _, rfl, rfl, _, rfl, ?_⟩
      refine ite2 (fun hlt => ?_) (fun _ => iteF ⟨_, rfl, ⟨⟨i, c, seed, n, hp, hi, hc⟩, hq, hfew, hne⟩, But.refl _ _⟩)
      refine ⟨_, rfl, _, _, _, _, rfl, rfl, SqL.of hp, rfl, _, rfl, _, _, _, _, rfl, rfl, SqL.of hp, rfl, q, _, rfl, .inl (SqL.of hq), _, _, rfl, rfl, _, rfl, ?_⟩
      refine ite2 (fun hlt2 => ?_) (fun _ => ⟨_, rfl, ⟨⟨i, c, seed, n, hp, hi, hc⟩, hq, hfew, hne⟩, But.refl _ _⟩)
      have hlt2 : i < ((cells.map V.int).length : Int) := of_decide_eq_true hlt2
      rw [List.length_map] at hlt2
      obtain ⟨j, rfl⟩ := Int.eq_ofNat_of_zero_le hi
      have hj : j < cells.length := by omega
      have hcell : (cells.map V.int)[j]? = some (V.int cells[j]) := by rw [List.getElem?_map, List.getElem?_eq_getElem hj]; rfl
      have hqp : ∀ {H' : Hp}, But p H H' → H' q = some (.lst (cells.map V.int)) := fun b => (b q hne.symm).trans hq
      refine ⟨_, rfl, _, _, _, _, rfl, rfl, SqL.of hp, rfl, _, rfl, _, _, _, _, rfl, rfl, SqL.of hp, rfl, q, _, _, _, rfl, rfl, SqL.of hq, atI_nat hcell, ?_⟩
      -- _law_src[1] = _law_src[1] + 1
      refine ⟨_, rfl, _, _, _, _, rfl, rfl, SqL.of hp, rfl, _, _, rfl, rfl, _, rfl, p, _, _, _, rfl, rfl, hp, rfl, ?_⟩
      -- _law_src[3] = ..
      refine ⟨_, rfl, _, _, _, _, rfl, rfl, SqL.of upd_same, rfl, _, _, rfl, rfl, .inr ⟨by decide, by decide⟩, _, rfl, .inl ⟨_, rfl, _, _, rfl, rfl, (by show (0 : Int) < 2147483323; decide), _, _, rfl, rfl, _, _, rfl, rfl, .inl ⟨_, rfl, _, _, rfl, rfl, (by show (0 : Int) < 2147483549; decide), _, rfl, p, _, _, _, rfl, rfl, upd_same, rfl, ?_⟩⟩⟩
      -- _law_src[2] = ..
      refine ⟨_, rfl, _, _, rfl, rfl, ⟨by decide, by decide, by decide⟩, _, _, rfl, rfl, _, rfl, ?_⟩
      refine ite2 (fun hge => ?_) (fun _ => ?_)
      · refine ⟨_, rfl, _, rfl, p, _, _, _, rfl, rfl, upd_same, rfl, ⟨_, rfl, ⟨⟨_, _, _, _, upd_same, by omega, ?_⟩, ?_, hfew, hne⟩, ?_⟩⟩
        · have z := of_decide_eq_true hge
          exact Int.le_trans (by decide) z
        · exact hqp (But.trans (But.trans But.upd But.upd) But.upd)
        · exact But.trans (But.trans But.upd But.upd) But.upd
      · exact ⟨_, rfl, p, _, _, _, rfl, rfl, upd_same, rfl, ⟨_, rfl, ⟨⟨_, _, _, _, upd_same, by omega, Int.le_refl _⟩, hqp (But.trans (But.trans But.upd But.upd) But.upd), hfew, hne⟩, But.trans (But.trans But.upd But.upd) But.upd⟩⟩
    · rintro σ H1 ⟨cell, rfl, ⟨⟨i, c, seed, n, hp, hi, hc⟩, hq, _, _⟩, hB⟩
      -- if _law_src[2] >= _law_many
      refine ⟨_, rfl, _, _, _, _, rfl, rfl, SqL.of hp, rfl, _, rfl, _, _, rfl, rfl, _, rfl, ?_⟩
      refine ite2 (fun _ => ?_) (fun _ => ?_)
      · refine ⟨_, rfl, _, _, _, _, rfl, rfl, SqL.of hp, rfl, .inl ⟨_, rfl, _, rfl, _, _, rfl, rfl, hm0, ?_⟩⟩
        refine ⟨_, rfl, _, _, _, _, rfl, rfl, SqL.of hp, rfl, _, rfl, _, _, rfl, rfl, wide_div hm0 (b := 100) (by omega) (by decide) (by decide), _, rfl, p, _, _, _, rfl, rfl, hp, rfl, ?_⟩
        exact ⟨_, rfl, k _ _ (Int.emod_nonneg _ (by omega)) (Int.emod_lt_of_pos _ hm0) ⟨⟨_, _, _, _, upd_same, hi, Int.ediv_nonneg hc (Int.le_of_lt hm0)⟩, (upd_ne hne.symm).trans hq, hfew, hne⟩ (But.trans hB But.upd)⟩
      · -- _law_src[4] = _law_src[4] + 1
        refine ⟨_, rfl, _, _, _, _, rfl, rfl, SqL.of hp, rfl, _, _, rfl, rfl, _, rfl, p, _, _, _, rfl, rfl, hp, rfl, ?_⟩
        -- _law_root
        refine ⟨fun σ H2 => ∃ root : Int, 0 ≤ root ∧ root < 2147483629 ∧ σ = [some (.ref p), some (.int m), cell, none, some (.int root), none] ∧ H2 = upd H1 p (.lst (srcL q i c seed (n + 1))), ?_, ?_⟩
        · refine ⟨_, rfl, _, _, _, _, rfl, rfl, SqL.of upd_same, rfl, _, rfl, _, _, _, _, rfl, rfl, SqL.of upd_same, rfl, _, _, rfl, rfl, .inr ⟨by decide, by decide⟩, _, _, rfl, rfl, .inl ⟨_, rfl, _, _, rfl, rfl, (by show (0 : Int) < 2147483629; decide), ?_⟩⟩
          exact ⟨_, Int.emod_nonneg _ (by decide), Int.emod_lt_of_pos _ (by decide), rfl, rfl⟩
        · rintro σ H2 ⟨root, r0, r1, rfl, rfl⟩
          -- _law_grown
          refine ⟨_, rfl, _, rfl, _, _, rfl, rfl, .inl ⟨by omega, by omega⟩, .inl ⟨_, rfl, _, _, rfl, rfl, (by show (0 : Int) < 2147483399; decide), ?_⟩⟩
          refine ⟨_, rfl, .inl ⟨_, rfl, _, _, rfl, rfl, (by show (0 : Int) < 39989; decide), _, _, rfl, rfl, _, _, rfl, rfl, .inl ⟨?_, ?_⟩, ?_⟩⟩
          · exact Int.lt_of_lt_of_le (by decide) (Int.emod_nonneg _ (by decide))
          · exact Int.lt_of_lt_of_le (Int.emod_lt_of_pos _ (by decide)) (by decide)
          -- _law_src[3]
          refine ⟨_, rfl, _, rfl, _, _, rfl, rfl, .inl ⟨by decide, by decide⟩, _, _, rfl, rfl, _, _, rfl, rfl, .inl ⟨_, rfl, _, _, rfl, rfl, (by show (0 : Int) < 2147483549; decide), _, rfl, p, _, _, _, rfl, rfl, upd_same, rfl, ?_⟩⟩
          -- return
          refine ⟨_, rfl, _, _, _, _, rfl, rfl, SqL.of upd_same, rfl, _, _, rfl, rfl, ⟨by decide, by decide⟩, _, rfl, _, _, _, _, rfl, rfl, SqL.of upd_same, rfl, .inl ⟨_, rfl, _, _, rfl, rfl, (by show (0 : Int) < 8521; decide), _, _, rfl, rfl, .inr ⟨by decide, by decide⟩, _, _, rfl, rfl, .inl ⟨_, rfl, _, rfl, _, _, rfl, rfl, hm0, ?_⟩⟩⟩
          exact k _ _ (Int.emod_nonneg _ (by omega)) (Int.emod_lt_of_pos _ hm0) ⟨⟨_, _, _, _, upd_same, hi, hc⟩, by rw [upd_ne hne.symm, upd_ne hne.symm]; exact hq, hfew, hne⟩ (But.trans hB (But.trans But.upd But.upd))
theorem ok_source {f : Addr} {fd : FuncData} (F : Fun K "_law_source" "_law_source" sSource f fd) (T : Nm mg) : FnOk P w K mg base CX0 1 f fd ["_law_script"] (spSource K) := by
  refine F.ok scSource (fun vs H Q E h => ?_) (fun cdv A outer s H vs Q E hr h => ?_)
  · obtain ⟨a, ns, rfl, _⟩ := h
    rfl
  · obtain ⟨a, ns, rfl, hS, hl, k⟩ := h
    have nd := scSource.nd
    have cut : cutV (ns.map V.int) none (some 63) = ns.map V.int := by
      unfold cutV HT.sIx
      rw [List.drop_zero, List.length_map]
      refine List.take_of_length_le ?_
      rw [List.length_map]
      show ns.length ≤ min 63 ns.length - 0
      omega
    refine ⟨_, pss_cons (ps_set (i := 1) nd rfl (Or.inl rfl) pe_int)
      (pss_cons (ps_for PassesOwn.never rfl (pi_list (pe_slice sl_list (pv 0) po_none (po_some pe_int))) (pg_name (i := 2) nd rfl (Or.inl rfl))
        (pss_one (ps_set (i := 1) nd rfl (Or.inl rfl) (pe_op op_mod (pe_callTy call_int1 (by rfl) T.int (by decide +kernel) (pa_cons (pe_op op_add (pe_op op_add (pe_op op_mul (pv 1) pe_int)
            (pe_op op_mod (pe_callTy call_int1 (by rfl) T.int (by decide +kernel) (pa_cons (pv 2) pa_nil)) pe_int)) pe_int) pa_nil)) pe_int))))
      (pss_one (ps_ret (pe_lst (pa_cons (pe_callTy call_list_of (by rfl) T.list (by decide +kernel) (pa_cons (pe_slice sl_list (pv 0) po_none (po_some pe_int)) pa_nil))
        (pa_cons pe_int (pa_cons pe_int (pa_cons (pv 1) (pa_cons pe_int pa_nil))))))))), ?_⟩
    refine ⟨_, rfl, _, rfl, a, _, rfl, hS, fun u hu => ?_⟩
    rw [cut]
    have sm : Same H (upd H u (.lst (ns.map V.int))) := fun b o e => by rw [upd_ne (ne_of_none e hu)]; exact e
    refine ⟨u, rfl, ⟨_, SqL.of upd_same⟩, for_list (K := K) (a := u) (xs := ns.map V.int) (fun i σ H2 => ∃ (sd : Int) (v : Option V), σ = [some (.ref a), some (.int sd), v] ∧ H2 = upd H u (.lst (ns.map V.int)))
      ⟨_, _, rfl, rfl⟩ (fun i σ H2 _ ⟨_, _, _, e⟩ => e ▸ SqL.of upd_same) ?_ ?_⟩
    · rintro i y σ H2 hi ⟨sd, v, rfl, rfl⟩
      obtain ⟨z, rfl⟩ : ∃ z, y = V.int z := by
        rw [List.getElem?_map] at hi
        obtain ⟨z, _, e⟩ := Option.map_eq_some_iff.mp hi
        exact ⟨z, e.symm⟩
      exact ⟨_, rfl, _, _, rfl, rfl, .inr ⟨by decide, by decide⟩, _, rfl, .inl ⟨_, rfl, _, _, rfl, rfl, (by show (0 : Int) < 2147483353; decide), _, _, rfl, rfl, _, _, rfl, rfl, .inl ⟨_, rfl, _, _, rfl, rfl, (by show (0 : Int) < 2147483587; decide), _, _, rfl, rfl⟩⟩⟩
    · rintro σ H2 ⟨sd, v, rfl, rfl⟩
      refine ⟨_, rfl, _, rfl, a, _, rfl, sm.seq hS, fun u2 hu2 => ?_⟩
      rw [cut]
      refine ⟨u2, _, rfl, .inl (SqL.of upd_same), fun u3 hu3 => ⟨_, rfl, by show 5 ≤ sizeLine; decide, fun p hp => ?_⟩⟩
      have n3 : u3 ≠ p := fun z => by rw [z, upd_same] at hp; cases hp
      have sm2 : Same H (upd (upd (upd H u (.lst (ns.map V.int))) u2 (.lst (ns.map V.int))) u3 (.lst (ns.map V.int))) := fun b o e => by
        rw [upd_ne (ne_of_none (by rw [upd_ne (ne_of_none (sm b o e) hu2)]; exact sm b o e) hu3), upd_ne (ne_of_none (sm b o e) hu2)]
        exact sm b o e
      have sm3 : Same H (upd (upd (upd H u (.lst (ns.map V.int))) u2 (.lst (ns.map V.int))) u3 (.lst (ns.map V.int))) := sm2
      refine k p u3 _ (sm2.free hp) ?_ (fun b o e => ?_) ⟨⟨0, 0, sd, 0, upd_same, Int.le_refl _, Int.le_refl _⟩, ?_, hl, n3.symm⟩
      · have e1 : Same H (upd (upd H u (.lst (ns.map V.int))) u2 (.lst (ns.map V.int))) := fun b o e => by
          rw [upd_ne (ne_of_none (sm b o e) hu2)]
          exact sm b o e
        exact e1.free hu3
      · rw [upd_ne (ne_of_none (sm2 b o e) hp)]
        exact sm2 b o e
      · rw [upd_ne n3, upd_same]
/-! ### one of some things; are two data shown alike -/
def spOf (K : PySem.W.Frag) : Sp := fun vs H Q _ => ∃ (p q : Addr) (cells : List Int) (sv : V), vs = [.ref p, sv] ∧ Src H p q cells ∧
  ((∃ (a : Addr) (xs : List V), sv = .ref a ∧ (∀ H', But p H H' → SqL K H' a xs ∨ SqT K H' a xs) ∧ 0 < xs.length ∧ xs.length < 1000000 ∧
      ∀ (i : Nat) (x : V) (H' : Hp), xs[i]? = some x → Src H' p q cells → But p H H' → Q x H') ∨
    ∃ z : Str, sv = .str z ∧ 0 < z.length ∧ z.length < 1000000 ∧ ∀ (c : Nat) (H' : Hp), c ∈ z.cps.toList → Src H' p q cells → But p H H' → Q (.str ⟨#[c]⟩) H')
theorem scOf : FnScope ["_law_src", "_law_some"] ["_law_src", "_law_some"] (defScope sOf) := ⟨rfl, rfl, rfl, by decide +kernel, rfl, by decide +kernel, by decide +kernel⟩
theorem big : (1000000 : Nat) ≤ sizeLine := by decide
theorem ok_of {f fD : Addr} {fd fdD : FuncData} (F : Fun K "_law_of" "_law_of" sOf f fd) (T : Nm mg) (FD : Fun K "_law_draw" "_law_draw" sDraw fD fdD) (mD : mg "_law_draw" = some (.ref fD)) (bD : Binds K fdD ["_law_src", "_law_many"] []) :
    FnOk P w K mg base CX0 2 f fd ["_law_src", "_law_some"] (spOf K) := by
  have GD : FnOk P w K mg base CX0 1 fD fdD ["_law_src", "_law_many"] spDraw := ok_draw FD T
  refine F.ok scOf (fun vs H Q E h => ?_) (fun cdv A outer s H vs Q E hr h => ?_)
  · obtain ⟨p, q, cells, sv, rfl, _⟩ := h
    rfl
  · obtain ⟨p, q, cells, sv, rfl, hS, h⟩ := h
    refine ⟨_, pss_one (ps_ret (pe_ix ix_seq (pv 1) (pe_call GD hr (by rfl) mD FD.kp bD .nil pass0 (pa_cons (pv 0) (pa_cons (pe_callB call_len (by rfl) T.len PySem.boot_len (pa_cons (pv 1) pa_nil)) pa_nil))) fun _ _ => rfl)), ?_⟩
    rcases h with ⟨a, xs, rfl, hx, h0, h1, k⟩ | ⟨z, rfl, h0, h1, k⟩
    · refine ⟨_, rfl, _, rfl, _, rfl, _, xs.length, rfl, ?_, p, q, cells, _, rfl, hS, by omega, by omega, fun r H' r0 r1 S' B' => ?_⟩
      · rcases hx H (But.refl _ _) with z | z
        · exact .inl ⟨_, z, rfl⟩
        · exact .inr ⟨_, z, rfl⟩
      · obtain ⟨j, rfl⟩ := Int.eq_ofNat_of_zero_le r0
        have hj : j < xs.length := by omega
        have e : xs[j]? = some xs[j] := List.getElem?_eq_getElem hj
        rcases hx H' B' with z | z
        · exact .inl ⟨a, xs, _, _, rfl, rfl, z, atI_nat e, k j _ H' e S' B'⟩
        · exact .inr (.inl ⟨a, xs, _, _, rfl, rfl, z, atI_nat e, k j _ H' e S' B'⟩)
    · refine ⟨_, rfl, _, rfl, _, rfl, _, z.length, rfl, ⟨Nat.le_trans (Nat.le_of_lt h1) big, rfl⟩, p, q, cells, _, rfl, hS, by omega, by omega, fun r H' r0 r1 S' B' => ?_⟩
      obtain ⟨j, rfl⟩ := Int.eq_ofNat_of_zero_le r0
      have hl : z.cps.toList.length = z.length := by simp [Str.length]
      have hj : j < z.cps.toList.length := by omega
      have e : z.cps.toList[j]? = some z.cps.toList[j] := List.getElem?_eq_getElem hj
      exact .inr (.inr ⟨z, _, _, rfl, rfl, Nat.le_trans (Nat.le_of_lt h1) big, atI_nat e, k _ H' (List.getElem_mem hj) S' B'⟩)
def spSame (K : PySem.W.Frag) : Sp := fun vs H Q _ => ∃ (x y : V) (d e : PyData), vs = [x, y] ∧ Dp K H x d ∧ Dp K H y e ∧ Sm d ∧ Sm e ∧ Q (.bl (decide (d.shown = e.shown))) H
theorem scSame : FnScope ["_law_found", "_law_due"] ["_law_found", "_law_due"] (defScope sSame) := ⟨rfl, rfl, rfl, by decide +kernel, rfl, by decide +kernel, by decide +kernel⟩
theorem ok_same {f : Addr} {fd : FuncData} (F : Fun K "_law_same" "_law_same" sSame f fd) (T : Nm mg) : FnG P w K mg base CX0 1 f fd ["_law_found", "_law_due"] (spSame K) := by
  refine okG F scSame (fun vs H Q E h => ?_) (fun cdv A outer s H vs Q E hG hr h => ?_)
  · obtain ⟨x, y, d, e, rfl, _⟩ := h
    rfl
  · obtain ⟨x, y, d, e, rfl, hx, hy, sd, se, k⟩ := h
    refine ⟨_, pss_one (ps_ret (pe_cmpR op_eq (pe_callB (call_repr hG hr.units) (by rfl) T.repr (by decide +kernel) (pa_cons (pv 0) pa_nil)) (pe_callB (call_repr hG hr.units) (by rfl) T.repr (by decide +kernel) (pa_cons (pv 1) pa_nil)) (nomark _))), ?_⟩
    refine ⟨_, rfl, _, d, rfl, hx, sd, _, rfl, _, e, rfl, hy, se, rfl, ?_⟩
    have q : decide (V.str d.shown = V.str e.shown) = decide (d.shown = e.shown) := by
      by_cases z : d.shown = e.shown
      · rw [z, decide_eq_true rfl, decide_eq_true rfl]
      · rw [decide_eq_false z, decide_eq_false fun y => z (V.str.inj y)]
    show Q (.bl (decide (V.str d.shown = V.str e.shown))) H
    rw [q]
    exact k
end
end Lw

set_option maxRecDepth 100000
set_option linter.unusedVariables false
namespace Lw
open PySem PySem.Spec PyProof.Rows L2 VG
def whole : PyData → Bool
  | .int _ => true
  | _ => false
theorem whole_int {d : PyData} (h : whole d = true) : ∃ i, d = .int i := by
  cases d <;> first | exact ⟨_, rfl⟩ | cases h
def intOf : PyData → Int
  | .int i => i
  | _ => 0
def isRat : PyData → Bool
  | .tuple [d1, d2] => whole d1 && (whole d2 && (decide (1 ≤ intOf d2) && decide (Nat.gcd (intOf d1).natAbs (intOf d2).natAbs = 1)))
  | _ => false
/-- top and bottom in lowest terms -/
def low (t b : Int) : Int × Int := (t / (Nat.gcd t.natAbs b.natAbs : Int), b / (Nat.gcd t.natAbs b.natAbs : Int))
structure NmW (mg : Str → Option Value) : Prop where
  isi : mg "isinstance" = none
  int : mg "int" = none
  bool : mg "bool" = none
section
variable {P : Program} {w : World} {K : PySem.W.Frag} {mg : Str → Option Value} {base : Heap}
theorem two_of {H : Hp} {xs : List V} {ds : List PyData} (hd : DpAll K H xs ds) (h : xs.length = 2) : ∃ y1 y2 d1 d2, xs = [y1, y2] ∧ ds = [d1, d2] ∧ Dp K H y1 d1 ∧ Dp K H y2 d2 := by
  cases hd with
  | nil => cases h
  | cons h1 t =>
    cases t with
    | nil => cases h
    | cons h2 t =>
      cases t with
      | nil => exact ⟨_, _, _, _, rfl, rfl, h1, h2⟩
      | cons h3 t =>
        simp only [List.length_cons] at h
        omega
def spWhole (K : PySem.W.Frag) : Sp := fun vs H Q _ => ∃ (x : V) (d : PyData), vs = [x] ∧ Dp K H x d ∧ Q (.bl (whole d)) H
theorem scWhole : FnScope ["value"] ["value"] (defScope s__is_whole) := ⟨rfl, rfl, rfl, by decide +kernel, rfl, by decide +kernel, by decide +kernel⟩
theorem ok_whole {f : Addr} {fd : FuncData} (F : Fun K "_is_whole" "_is_whole" s__is_whole f fd) (T : NmW mg) : FnOk P w K mg base CX0 1 f fd ["value"] (spWhole K) := by
  refine F.ok scWhole (fun vs H Q E h => ?_) (fun cdv A outer s H vs Q E hr h => ?_)
  · obtain ⟨x, d, rfl, _⟩ := h
    rfl
  · obtain ⟨x, d, rfl, hx, q⟩ := h
    refine ⟨_, pss_one (ps_ret (pe_and (pe_callB call_isi (by rfl) T.isi (by decide +kernel) (pa_cons (pv 0) (pa_cons (pe_bltn (v := .ty "int") (by rfl) T.int (by decide +kernel) rfl) pa_nil)))
      (pe_one (pe_not (pe_callB call_isi (by rfl) T.isi (by decide +kernel) (pa_cons (pv 0) (pa_cons (pe_bltn (v := .ty "bool") (by rfl) T.bool (by decide +kernel) rfl) pa_nil))))))), ?_⟩
    cases hx with
    | non => exact ⟨_, rfl, _, _, _, _, false, rfl, .ty "int", .base .non, kit_ty (by decide +kernel), _, rfl, iteF q⟩
    | bl b => exact ⟨_, rfl, _, _, _, _, true, rfl, .ty "int", .base (.bl b), kit_ty (by decide +kernel), _, rfl, iteT ⟨_, rfl, _, _, _, _, true, rfl, .ty "bool", .base (.bl b), kit_ty (by decide +kernel), _, rfl, q⟩⟩
    | int i => exact ⟨_, rfl, _, _, _, _, true, rfl, .ty "int", .base (.int i), kit_ty (by decide +kernel), _, rfl, iteT ⟨_, rfl, _, _, _, _, false, rfl, .ty "bool", .base (.int i), kit_ty (by decide +kernel), _, rfl, q⟩⟩
    | str z => exact ⟨_, rfl, _, _, _, _, false, rfl, .ty "int", .base (.str z), kit_ty (by decide +kernel), _, rfl, iteF q⟩
    | lst hs hd => exact ⟨_, rfl, _, _, _, _, false, rfl, .ty "int", tyx_list hs, kit_ty (by decide +kernel), _, rfl, iteF q⟩
    | tup hs hd => exact ⟨_, rfl, _, _, _, _, false, rfl, .ty "int", tyx_tup hs, kit_ty (by decide +kernel), _, rfl, iteF q⟩
def spIsRat (K : PySem.W.Frag) : Sp := fun vs H Q _ => ∃ (x : V) (d : PyData), vs = [x] ∧ Dp K H x d ∧ Q (.bl (isRat d)) H
theorem scIsRat : FnScope ["value", "top", "bottom"] ["value"] (defScope s_is_ratio) := ⟨rfl, rfl, rfl, by decide +kernel, rfl, by decide +kernel, by decide +kernel⟩
structure NmR (mg : Str → Option Value) : Prop where
  w : NmW mg
  tup : mg "tuple" = none
  len : mg "len" = none
  gcd : mg "gcd" = some (.builtin "math.gcd")
theorem ok_isRat {f fW : Addr} {fd fdW : FuncData} (F : Fun K "is_ratio" "is_ratio" s_is_ratio f fd) (FW : Fun K "_is_whole" "_is_whole" s__is_whole fW fdW) (T : NmR mg) (mW : mg "_is_whole" = some (.ref fW)) (bW : Binds K fdW ["value"] []) :
    FnOk P w K mg base CX0 2 f fd ["value"] (spIsRat K) := by
  refine F.ok scIsRat (fun vs H Q E h => ?_) (fun cdv A outer s H vs Q E hr h => ?_)
  · obtain ⟨x, d, rfl, _⟩ := h
    rfl
  · obtain ⟨x, d, rfl, hx, q⟩ := h
    have nd := scIsRat.nd
    have GW := ok_whole (P := P) (w := w) (base := base) FW T.w
    refine ⟨_, pss_cons (ps_if (PW.pt (pw_or (pt_not (pt_val (pe_callB call_isi (by rfl) T.w.isi (by decide +kernel) (pa_cons (pv 0) (pa_cons (pe_bltn (v := .ty "tuple") (by rfl) T.tup (by decide +kernel) rfl) pa_nil)))))
        (pw_or1 (pt_cmpR op_ne (pe_callB call_len_seq (by rfl) T.len PySem.boot_len (pa_cons (pv 0) pa_nil)) pe_int (nomark _))))) (pss_one (ps_ret pe_bl)) pss_nil)
      (pss_cons (ps_asg (pv 0) (pg_tup (by rfl) (pgs_cons (pg_name (i := 1) nd rfl (Or.inl rfl)) (pgs_cons (pg_name (i := 2) nd rfl (Or.inl rfl)) pgs_nil))))
      (pss_one (ps_ret (pe_and (pe_call GW hr (by rfl) mW FW.kp bW .nil pass0 (pa_cons (pv 1) pa_nil)) (pe_and (pe_call GW hr (by rfl) mW FW.kp bW .nil pass0 (pa_cons (pv 2) pa_nil)) (pe_and (pe_cmpR op_ge (pv 2) pe_int (nomark _))
        (pe_one (pe_cmpR op_eq (pe_callBfun cr_gcd (by rfl) T.gcd (pa_cons (pv 1) (pa_cons (pv 2) pa_nil))) pe_int (nomark _))))))))), ?_⟩
    cases hx with
    | non => exact ⟨_, rfl, _, _, _, _, false, rfl, .ty "tuple", .base .non, kit_ty (by decide +kernel), _, rfl, iteT (iteT q)⟩
    | bl b => exact ⟨_, rfl, _, _, _, _, false, rfl, .ty "tuple", .base (.bl b), kit_ty (by decide +kernel), _, rfl, iteT (iteT q)⟩
    | int i => exact ⟨_, rfl, _, _, _, _, false, rfl, .ty "tuple", .base (.int i), kit_ty (by decide +kernel), _, rfl, iteT (iteT q)⟩
    | str z => exact ⟨_, rfl, _, _, _, _, false, rfl, .ty "tuple", .base (.str z), kit_ty (by decide +kernel), _, rfl, iteT (iteT q)⟩
    | lst hs hd => exact ⟨_, rfl, _, _, _, _, false, rfl, .ty "tuple", tyx_list hs, kit_ty (by decide +kernel), _, rfl, iteT (iteT q)⟩
    | @tup a xs ds hs hd =>
      refine ⟨_, rfl, _, _, _, _, true, rfl, .ty "tuple", tyx_tup hs, kit_ty (by decide +kernel), _, rfl, iteF ?_⟩
      refine ⟨_, rfl, a, xs, rfl, .inr hs, rfl, _, rfl, ?_⟩
      have hlen := DpAll.len hd
      refine ite2 (fun h => ?_) (fun h => ?_)
      · have n2 : ds.length ≠ 2 := fun z => by
          rw [hlen, z] at h
          exact absurd h (by decide)
        have e : isRat (.tuple ds) = false := by
          match ds, n2 with
          | [], _ => rfl
          | [_], _ => rfl
          | [_, _], n => exact absurd rfl n
          | _ :: _ :: _ :: _, _ => rfl
        rw [e] at q
        exact q
      · have n2 : xs.length = 2 := by
          by_cases z : xs.length = 2
          · exact z
          · have w : decide (V.int (xs.length : Int) = V.int 2) = false := decide_eq_false fun y => z (by have := V.int.inj y; omega)
            rw [w] at h
            exact absurd rfl h
        obtain ⟨y1, y2, d1, d2, rfl, rfl, h1, h2⟩ := two_of hd n2
        have q : Q (.bl (isRat (.tuple [d1, d2]))) H := q
        clear h
        refine ⟨_, rfl, a, _, rfl, hs, rfl, ?_⟩
        have q : Q (.bl (whole d1 && (whole d2 && (decide (1 ≤ intOf d2) && decide (Nat.gcd (intOf d1).natAbs (intOf d2).natAbs = 1))))) H := q
        refine ⟨y1, _, rfl, y2, _, rfl, rfl, ?_⟩
        refine ⟨_, rfl, y1, d1, rfl, h1, _, rfl, ?_⟩
        cases e1 : whole d1 with
        | false =>
          rw [e1] at q
          exact iteF q
        | true =>
          rw [e1] at q
          refine iteT ⟨_, rfl, y2, d2, rfl, h2, _, rfl, ?_⟩
          cases e2 : whole d2 with
          | false =>
            rw [e2] at q
            exact iteF q
          | true =>
            rw [e2] at q
            obtain ⟨i1, rfl⟩ := whole_int e1
            obtain ⟨i2, rfl⟩ := whole_int e2
            cases h1
            cases h2
            refine iteT ⟨_, rfl, _, _, rfl, rfl, _, rfl, ?_⟩
            have q : Q (.bl (decide (1 ≤ i2) && decide (Nat.gcd i1.natAbs i2.natAbs = 1))) H := q
            cases e3 : decide (1 ≤ i2) with
            | false =>
              rw [e3] at q
              exact iteF q
            | true =>
              rw [e3] at q
              refine iteT ⟨_, rfl, _, rfl, i1, i2, rfl, rfl, ?_⟩
              have q : Q (.bl (decide (Nat.gcd i1.natAbs i2.natAbs = 1))) H := q
              have e : decide (V.int ((Nat.gcd i1.natAbs i2.natAbs : Nat) : Int) = V.int 1) = decide (Nat.gcd i1.natAbs i2.natAbs = 1) := by
                by_cases z : Nat.gcd i1.natAbs i2.natAbs = 1
                · rw [decide_eq_true z]
                  exact decide_eq_true (show V.int ((Nat.gcd i1.natAbs i2.natAbs : Nat) : Int) = V.int 1 by rw [z]; rfl)
                · rw [decide_eq_false z, decide_eq_false fun y => z (by have := V.int.inj y; omega)]
              rw [← e] at q
              exact q
end
end Lw

set_option maxRecDepth 100000
set_option linter.unusedVariables false
namespace Lw
open PySem PySem.Spec PyProof.Rows L2 VG
/-- the ratio that some data are -/
def ratD : PyData → Int × Int
  | .int i => (i, 1)
  | .tuple [a, b] => (intOf a, intOf b)
  | _ => (0, 1)
def okR (d : PyData) : Bool := whole d || isRat d
theorem isRat_form {d : PyData} (h : isRat d = true) : ∃ t b : Int, d = .tuple [.int t, .int b] ∧ 1 ≤ b := by
  cases d with
  | tuple ds =>
    match ds, h with
    | [a, b], h =>
      have h : (whole a && (whole b && (decide (1 ≤ intOf b) && decide (Nat.gcd (intOf a).natAbs (intOf b).natAbs = 1)))) = true := h
      simp only [Bool.and_eq_true, decide_eq_true_eq] at h
      obtain ⟨h1, h2, h3, _⟩ := h
      obtain ⟨t, rfl⟩ := whole_int h1
      obtain ⟨c, rfl⟩ := whole_int h2
      exact ⟨t, c, rfl, h3⟩
    | [], h => cases h
    | [_], h => cases h
    | _ :: _ :: _ :: _, h => cases h
  | _ => cases h
theorem low_pos {t b : Int} (h : 0 < b) : 0 < (low t b).2 := by
  have hg : 0 < Nat.gcd t.natAbs b.natAbs := Nat.gcd_pos_of_pos_right _ (by omega)
  have hd : (Nat.gcd t.natAbs b.natAbs : Int) ∣ b := Int.ofNat_dvd_left.mpr (Nat.gcd_dvd_right _ _)
  show 0 < b / (Nat.gcd t.natAbs b.natAbs : Int)
  generalize Nat.gcd t.natAbs b.natAbs = g at hg hd ⊢
  exact Int.ediv_pos_of_pos_of_dvd h (by omega) hd
theorem low_abs {t b : Int} : (low t b).1.natAbs ≤ t.natAbs ∧ (low t b).2.natAbs ≤ b.natAbs := ⟨Int.natAbs_ediv_le_natAbs t _, Int.natAbs_ediv_le_natAbs b _⟩

section
variable {P : Program} {w : World} {K : PySem.W.Frag} {mg : Str → Option Value} {base : Heap}
def spLowest : Sp := fun vs H Q _ => ∃ (t b : Int), vs = [.int t, .int b] ∧ 0 < b ∧ b.natAbs < 2 ^ 8000 ∧ ∀ T, H T = none → Q (.ref T) (upd H T (.tup [.int (low t b).1, .int (low t b).2]))
theorem gcd_fits {t b : Int} (h : 0 < b) (hb : b.natAbs < 2 ^ 8000) : CDivW t (Nat.gcd t.natAbs b.natAbs : Nat) ∧ CDivW b (Nat.gcd t.natAbs b.natAbs : Nat) := by
  have h0 : 0 < b.natAbs := by omega
  have g0 : 0 < Nat.gcd t.natAbs b.natAbs := Nat.gcd_pos_of_pos_right _ h0
  have g1 : Nat.gcd t.natAbs b.natAbs < 2 ^ 8000 := Nat.lt_of_le_of_lt (Nat.gcd_le_right _ h0) hb
  have c : ∀ i : Int, CDivW i (Nat.gcd t.natAbs b.natAbs : Nat) := fun i => wide_div (b := 8000) (by omega) (by rw [Int.natAbs_natCast]; exact g1) (by decide) (by decide)
  exact ⟨c t, c b⟩
/-- ratio_of(x), x a ratio or a number -/
def spRat (K : PySem.W.Frag) : Sp := fun vs H Q _ => ∃ (x : V) (d : PyData), vs = [x] ∧ Dp K H x d ∧ okR d = true ∧ ∀ (T : Addr) (H' : Hp), Same H H' → SqT K H' T [.int (ratD d).1, .int (ratD d).2] → Q (.ref T) H'
theorem scRatioOf : FnScope ["value"] ["value"] (defScope s_ratio_of) := ⟨rfl, rfl, rfl, by decide +kernel, rfl, by decide +kernel, by decide +kernel⟩
theorem ok_ratioOf {f fW fR : Addr} {fd fdW fdR : FuncData} (F : Fun K "ratio_of" "ratio_of" s_ratio_of f fd) (FW : Fun K "_is_whole" "_is_whole" s__is_whole fW fdW) (FR : Fun K "is_ratio" "is_ratio" s_is_ratio fR fdR) (T : NmR mg)
    (mW : mg "_is_whole" = some (.ref fW)) (bW : Binds K fdW ["value"] []) (mR : mg "is_ratio" = some (.ref fR)) (bR : Binds K fdR ["value"] []) :
    FnOk P w K mg base CX0 3 f fd ["value"] (spRat K) := by
  refine F.ok scRatioOf (fun vs H Q E h => ?_) (fun cdv A outer s H vs Q E hr h => ?_)
  · obtain ⟨x, d, rfl, _⟩ := h
    rfl
  · obtain ⟨x, d, rfl, hx, ho, q⟩ := h
    refine ⟨_, pss_cons (ps_if (pt_val (pe_call (ok_whole FW T.w) (hr.mono (by omega)) (by rfl) mW FW.kp bW .nil pass0 (pa_cons (pv 0) pa_nil))) (pss_one (ps_ret (pe_tup (pa_cons (pv 0) (pa_cons pe_int pa_nil))))) pss_nil)
      (pss_cons (ps_if (pt_not (pt_val (pe_call (ok_isRat FR FW T mW bW) hr (by rfl) mR FR.kp bR .nil pass0 (pa_cons (pv 0) pa_nil)))) pss_false pss_nil)
      (pss_one (ps_ret (pv 0)))), ?_⟩
    refine ⟨_, rfl, x, d, rfl, hx, _, rfl, ?_⟩
    cases e1 : whole d with
    | true =>
      obtain ⟨i, rfl⟩ := whole_int e1
      cases hx
      exact iteT ⟨_, rfl, small_line (by show 2 ≤ 1000; decide), fun T hT => q T _ (same_upd hT) (SqT.of upd_same)⟩
    | false =>
      have e2 : isRat d = true := by
        unfold okR at ho
        rw [e1] at ho
        exact ho
      obtain ⟨t, b, rfl, _⟩ := isRat_form e2
      refine iteF ⟨_, rfl, x, _, rfl, hx, _, rfl, ?_⟩
      rw [e2]
      refine iteF ⟨_, rfl, ?_⟩
      obtain ⟨a, xs, rfl, hs, hd⟩ := dp_tup hx
      obtain ⟨y, z, rfl, h1, h2⟩ := dpAll2 hd
      cases dp_int h1
      cases dp_int h2
      exact q a H (Same.refl H) hs
/-- the law's own lowest terms, by Euclid -/
theorem scLow : FnScope ["_law_top", "_law_bottom", "_law_one", "_law_other"] ["_law_top", "_law_bottom"] (defScope s__law_low) := ⟨rfl, rfl, rfl, by decide +kernel, rfl, by decide +kernel, by decide +kernel⟩
theorem gcd_step {a b : Int} (ha : 0 ≤ a) (hb : 0 < b) : Nat.gcd b.natAbs (a % b).natAbs = Nat.gcd a.natAbs b.natAbs := by
  have e : (a % b).natAbs = a.natAbs % b.natAbs := by
    obtain ⟨m, rfl⟩ := Int.eq_ofNat_of_zero_le ha
    obtain ⟨n, rfl⟩ := Int.eq_ofNat_of_zero_le (Int.le_of_lt hb)
    rfl
  rw [e, Nat.gcd_comm a.natAbs b.natAbs, Nat.gcd_rec b.natAbs a.natAbs, Nat.gcd_comm]
theorem ok_low {f : Addr} {fd : FuncData} (F : Fun K "_law_low" "_law_low" s__law_low f fd) (mi : mg "int" = none) (ma : mg "abs" = none) : FnOk P w K mg base CX0 1 f fd ["_law_top", "_law_bottom"] spLowest := by
  refine F.ok scLow (fun vs H Q E h => ?_) (fun cdv A outer s H vs Q E hr h => ?_)
  · obtain ⟨t, b, rfl, _⟩ := h
    rfl
  · obtain ⟨t, b, rfl, hb, hs, q⟩ := h
    have nd := scLow.nd
    refine ⟨_, pss_cons (ps_par (i := 2) (j := 3) (by rfl) nd rfl rfl (by decide) rfl rfl (pa_cons (pe_callB call_abs (by rfl) ma (by decide +kernel) (pa_cons (pv 0) pa_nil)) (pa_cons (pv 1) pa_nil)) (by rfl))
      (pss_cons (ps_while PassesOwn.never (pt_cmpR op_gt (pv 3) pe_int (nomark _))
        (pss_one (ps_par (i := 2) (j := 3) (by rfl) nd rfl rfl (by decide) rfl rfl (pa_cons (pv 3) (pa_cons (pe_op op_mod (pe_callTy call_int1 (by rfl) mi (by decide +kernel) (pa_cons (pv 2) pa_nil)) (pv 3)) pa_nil)) (by rfl))))
      (pss_one (ps_ret (pe_tup (pa_cons (pe_op op_fdivW (pv 0) (pv 2)) (pa_cons (pe_op op_fdivW (pv 1) (pv 2)) pa_nil)))))), ?_⟩
    have ab : (if t < 0 then -t else t) = (t.natAbs : Int) := by
      by_cases z : t < 0
      · rw [if_pos z]; omega
      · rw [if_neg z]; omega
    refine ⟨_, rfl, t, rfl, _, rfl, _, _, rfl, ?_⟩
    refine while_by (fun σ G => G = H ∧ ∃ x y : Int, σ = [some (.int t), some (.int b), some (.int x), some (.int y)] ∧ 0 ≤ x ∧ 0 ≤ y ∧ Nat.gcd x.natAbs y.natAbs = Nat.gcd t.natAbs b.natAbs)
      (fun σ _ => match σ with | [_, _, _, some (.int y)] => y.natAbs | _ => 0) ⟨rfl, _, _, rfl, by rw [ab]; omega, by omega, by rw [ab]; rfl⟩ ?_ ?_
    · rintro σ G ⟨rfl, x, y, rfl, hx, hy, hg⟩
      refine ⟨_, rfl, _, _, rfl, rfl, _, rfl, ?_⟩
      refine ite2 (fun hlt => ?_) (fun hge => ?_)
      · have hlt : (0 : Int) < y := of_decide_eq_true hlt
        refine ⟨_, rfl, _, rfl, .inl ⟨_, rfl, _, rfl, _, _, rfl, rfl, hlt, _, _, rfl, ⟨rfl, y, x % y, rfl, hy, Int.emod_nonneg _ (by omega), (gcd_step hx hlt).trans hg⟩, ?_⟩⟩
        show (x % y).natAbs < y.natAbs
        have h1 := Int.emod_lt_of_pos x hlt
        have h2 := Int.emod_nonneg x (show y ≠ 0 by omega)
        omega
      · have hy0 : y = 0 := by
          have z : ¬ (0 : Int) < y := fun z => hge (decide_eq_true z)
          omega
        subst hy0
        have e : x = (Nat.gcd t.natAbs b.natAbs : Nat) := by
          rw [← hg, show (0 : Int).natAbs = 0 from rfl, Nat.gcd_zero_right]
          omega
        obtain ⟨c1, c2⟩ := gcd_fits (t := t) hb hs
        subst e
        refine ⟨_, rfl, _, rfl, _, _, rfl, rfl, c1, _, rfl, _, rfl, _, _, rfl, rfl, c2, small_line (by show 2 ≤ 1000; decide), fun T hT => q T hT⟩
    · rintro σ G Q1 Q2 hq ⟨v, e1, i, j, e2, e3, k, e4, z⟩
      exact ⟨v, e1, i, j, e2, e3, k, e4, hq _ _ z⟩
theorem Src.on {H H' : Hp} {p q : Addr} {cells : List Int} (s : Src H p q cells) (e : Same H H') : Src H' p q cells := by
  obtain ⟨⟨i, c, sd, n, h1, h2, h3⟩, h4, h5, h6⟩ := s
  exact ⟨⟨i, c, sd, n, e _ _ h1, h2, h3⟩, e _ _ h4, h5, h6⟩
theorem Src.at' {H : Hp} {p q : Addr} {cells : List Int} (h : Src H p q cells) : ∃ o, H p = some o := let ⟨_, _, _, _, e, _⟩ := h.ex; ⟨_, e⟩
theorem low_rat {t b : Int} (h : 0 < b) : isRat (.tuple [.int (low t b).1, .int (low t b).2]) = true := by
  have hg : 0 < Nat.gcd t.natAbs b.natAbs := Nat.gcd_pos_of_pos_right _ (by omega)
  have d1 : (Nat.gcd t.natAbs b.natAbs : Int) ∣ t := Int.ofNat_dvd_left.mpr (Nat.gcd_dvd_left _ _)
  have d2 : (Nat.gcd t.natAbs b.natAbs : Int) ∣ b := Int.ofNat_dvd_left.mpr (Nat.gcd_dvd_right _ _)
  have e1 : (low t b).1.natAbs = t.natAbs / Nat.gcd t.natAbs b.natAbs := by
    show (t / (Nat.gcd t.natAbs b.natAbs : Int)).natAbs = _
    rw [Int.natAbs_ediv_of_dvd d1, Int.natAbs_natCast]
  have e2 : (low t b).2.natAbs = b.natAbs / Nat.gcd t.natAbs b.natAbs := by
    show (b / (Nat.gcd t.natAbs b.natAbs : Int)).natAbs = _
    rw [Int.natAbs_ediv_of_dvd d2, Int.natAbs_natCast]
  show (true && (true && (decide (1 ≤ (low t b).2) && decide (Nat.gcd (low t b).1.natAbs (low t b).2.natAbs = 1)))) = true
  have g1 : Nat.gcd (low t b).1.natAbs (low t b).2.natAbs = 1 := by
    rw [e1, e2]
    exact Nat.gcd_div_gcd_div_gcd_of_pos_right (by omega)
  rw [decide_eq_true (show 1 ≤ (low t b).2 by have := low_pos (t := t) h; omega), decide_eq_true g1]
  rfl
def ratT (s : Int × Int) : PyData := .tuple [.int s.1, .int s.2]
end
end Lw

set_option maxRecDepth 100000
/-! zip of two sequences, each a list or a tuple. -/
namespace VG
open PySem PySem.Spec PyProof.Rows L2
inductive Kd | l | t
def Kd.sq (K : PySem.W.Frag) (H : Hp) (a : Addr) (xs : List V) : Kd → Prop
  | .l => SqL K H a xs
  | .t => SqT K H a xs
def Kd.iter (h : Heap) (it a : Addr) (i : Nat) : Kd → Prop
  | .l => h.IsListIter it a i
  | .t => h.IsTupleIter it a i
def Kd.is (h : Heap) (a : Addr) (its : Array Value) : Kd → Prop
  | .l => h.IsList a its
  | .t => h.IsTuple a its
def Kd.obj (a : Addr) : Kd → Obj
  | .l => { cls := .type "list_iterator", data := .fields #[.ref a, .int 0 0] }
  | .t => { cls := .type "tuple_iterator", data := .fields #[.ref a, .int 0 0] }
theorem Kd.same {K : PySem.W.Frag} {H H' : Hp} {a : Addr} {xs : List V} (e : Same H H') : ∀ {k : Kd}, k.sq K H a xs → k.sq K H' a xs
  | .l, h => e.seq h
  | .t, h => Same.tup e h
theorem Kd.draws {P : Program} {w : World} {A : Around} (hh : A.handled = none) (it a : Addr) (hne : a ≠ it) (items : Array Value) : ∀ k : Kd, Draws P w A it [it, a] items.size (fun i v => items[i]? = some v) (fun i h => k.iter h it a i ∧ k.is h a items)
  | .l => Draws.list hh it a hne items
  | .t => Draws.tuple hh it a hne items
theorem Kd.begins (a : Addr) (items : Array Value) : ∀ k : Kd, Begins (.ref a) (k.obj a) fun h => k.is h a items
  | .l => begins_list a items
  | .t => begins_tuple a items
theorem Kd.start {h : Heap} {it a : Addr} : ∀ {k : Kd}, h.get? it = some (k.obj a) → k.iter h it a 0
  | .l, e => ⟨_, e, rfl, rfl⟩
  | .t, e => ⟨_, e, rfl, rfl⟩
theorem Kd.ito {h : Heap} {it a : Addr} {i : Nat} : ∀ {k : Kd}, k.iter h it a i → ∃ o, h.get? it = some o ∧ ∀ v, o.data ≠ .cell v
  | .l, ⟨o, e, _, d⟩ => ⟨o, e, fun v q => by rw [d] at q; cases q⟩
  | .t, ⟨o, e, _, d⟩ => ⟨o, e, fun v q => by rw [d] at q; cases q⟩
theorem Kd.itk {h h' : Heap} {it a : Addr} {i : Nat} : ∀ {k : Kd}, k.iter h it a i → (∀ o, h.get? it = some o → h'.get? it = some o) → k.iter h' it a i
  | .l, h1, f => h1.at fun o q => f o q
  | .t, h1, f => h1.at fun o q => f o q
section
variable {X : Cx} {pins : List (Addr × Obj)} {σ : L2.St} {H : Hp} {s : Shared}
theorem Kd.of (I : Inv X pins σ H s) {a : Addr} {xs : List V} : ∀ {k : Kd}, k.sq X.K H a xs → ∃ its : List Value, Vals xs its ∧ k.is s.heap a its.toArray ∧ a < s.heap.objs.size
  | .l, h => by
    obtain ⟨its, rv, p, _⟩ := I.list h
    exact ⟨its, rv, p.isList, p.lt⟩
  | .t, h => by
    obtain ⟨its, rv, p, _⟩ := I.tuple h
    obtain ⟨o, e, _⟩ := id p
    exact ⟨its, rv, p, Heap.lt_size e⟩
theorem Kd.inj (I : Inv X pins σ H s) {a : Addr} {xs ys : List V} : ∀ {k : Kd}, k.sq X.K H a xs → k.sq X.K H a ys → xs = ys
  | .l, h, h' => I.list_inj h h'
  | .t, h, h' => I.tuple_inj h h'
end
/-- the items of two sequences, in new pairs -/
def ItzG (K : PySem.W.Frag) (k1 k2 : Kd) (a b : Addr) : It :=
  ⟨fun i H => ∃ (xs ys : List V) (x y : V), k1.sq K H a xs ∧ k2.sq K H b ys ∧ xs[i]? = some x ∧ ys[i]? = some y,
    fun i H v H' => ∃ T x y, v = .ref T ∧ H T = none ∧ H' = upd H T (.tup [x, y]) ∧ (∀ xs, k1.sq K H a xs → xs[i]? = some x) ∧ ∀ ys, k2.sq K H b ys → ys[i]? = some y,
    fun i H => ∃ xs ys : List V, k1.sq K H a xs ∧ k2.sq K H b ys ∧ ((xs.length = i ∧ i ≤ ys.length) ∨ (ys.length = i ∧ i ≤ xs.length))⟩
theorem apart_sep {z TI TO i1 i2 a b : Addr} (D : ZipApart z TI TO i1 i2 a b) : ZipSep2 z TI TO i1 i2 [i1, a] [i2, b] where
  TIz := D.TIz
  TOz := D.TOz
  TITO := D.TITO
  TIi1 := D.TIi1
  mem1 := by simp
  zf1 := by simp [D.i1z.symm, D.l1z.symm]
  Tf1 := by simp [D.TOi1, D.l1TO.symm]
  TIi2 := D.TIi2
  mem2 := by simp
  zf2 := by simp [D.i2z.symm, D.l2z.symm]
  Tf2 := by simp [D.TOi2, D.l2TO.symm]
  sep1_2 := by simp [D.i12, D.l2i1.symm]
  sep2_1 := by simp [D.i12.symm, D.l1i2.symm]
theorem turn_zipG {P : Program} {w : World} {K : PySem.W.Frag} {elts : List Expr} {kk : Nat} {tpos : Pos} {k1 k2 : Kd} {a b z TI TO i1 i2 : Addr} (D : ZipApart z TI TO i1 i2 a b) :
    Turn P w K (.Tuple elts kk tpos) (ItzG K k1 k2 a b) [z, TI, TO, i1, i2] z (fun i h => IsZip h z TI TO .none ∧ IsTupOf2 h TI (.ref i1) (.ref i2) ∧ (∃ x y, IsTupOf2 h TO x y) ∧ k1.iter h i1 a i ∧ k2.iter h i2 b i) where
  mem := by simp
  obj := fun i h st c hc => by
    obtain ⟨hz, hTI, ⟨x, y, hTO⟩, e1, e2⟩ := st
    have e' : c = z ∨ c = TI ∨ c = TO ∨ c = i1 ∨ c = i2 := by simpa using hc
    rcases e' with q | q | q | q | q
    · rw [q]; exact ⟨_, hz, fun v q => nomatch q⟩
    · rw [q]; exact ⟨_, hTI, fun v q => nomatch q⟩
    · rw [q]; exact ⟨_, hTO, fun v q => nomatch q⟩
    · rw [q]; exact Kd.ito e1
    · rw [q]; exact Kd.ito e2
  keep := fun i h h' st k => by
    obtain ⟨hz, hTI, ⟨x, y, hTO⟩, h1, h2⟩ := st
    exact ⟨k z (by simp) _ hz, k TI (by simp) _ hTI, ⟨x, y, k TO (by simp) _ hTO⟩, Kd.itk h1 fun o q => k i1 (by simp) o q, Kd.itk h2 fun o q => k i2 (by simp) o q⟩
  item := by
    intro X hP hw hK hc i pins s σ H E I hf st hg
    subst hP hw hK
    obtain ⟨hz, hTI, ⟨x0, y0, hTO⟩, h1, h2⟩ := st
    obtain ⟨xs, ys, x, y, hqx, hqy, hx, hy⟩ := hg
    obtain ⟨its, rv, p, _⟩ := Kd.of I hqx
    obtain ⟨its2, rv2, p2, _⟩ := Kd.of I hqy
    obtain ⟨u, hu, ru⟩ := rv.get hx
    obtain ⟨u2, hu2, ru2⟩ := rv2.get hy
    have hzl : z < s.heap.objs.size := Heap.lt_size hz
    have lt1 : i < its.toArray.size := by
      obtain ⟨q, _⟩ := List.getElem?_eq_some_iff.mp hu
      simpa using q
    have lt2 : i < its2.toArray.size := by
      obtain ⟨q, _⟩ := List.getElem?_eq_some_iff.mp hu2
      simpa using q
    refine wpAny_pyNext_zipD2_item (apart_sep D) (Kd.draws (A := X.A.in1) (I.ok.hd hc) i1 a D.l1i1 its.toArray k1) (Kd.draws (A := X.A.in1) (I.ok.hd hc) i2 b D.l2i2 its2.toArray k2) hz hTI hTO ⟨h1, p⟩ ⟨h2, p2⟩ lt1 lt2 fun v1 v2 h' tk q1 q2 z' TO' st1' st2' hT hsz hk => ?_
    have ev1 : v1 = u := by
      have q1 : its.toArray[i]? = some v1 := q1
      have y : its.toArray[i]? = some u := by simpa using hu
      rw [y] at q1
      exact (Option.some.inj q1).symm
    have ev2 : v2 = u2 := by
      have q2 : its2.toArray[i]? = some v2 := q2
      have y : its2.toArray[i]? = some u2 := by simpa using hu2
      rw [y] at q2
      exact (Option.some.inj q2).symm
    subst ev1 ev2
    refine ⟨_, rfl, wpAny_letOwnedTupleGo_zip (s := { s with heap := h', toks := tk }) z' fun h'' z'' sb => ?_⟩
    have hT2 : h''.get? s.heap.objs.size = some { cls := .type "tuple", data := .seq #[v1, v2] } := (sb.2 _ (Nat.ne_of_gt hzl)).trans hT
    have new : ObjOk X.prog X.w (upd H s.heap.objs.size (.tup [x, y])) h'' s.heap.objs.size (.tup [x, y]) :=
      ⟨by show 2 ≤ sizeLine; decide, [v1, v2], .cons ru (.cons ru2 .nil), ⟨_, hT2, rfl, _, rfl⟩⟩
    have I1 : Inv X pins σ (upd H s.heap.objs.size (.tup [x, y])) { s with heap := h'', toks := tk } :=
      I.turnedNew (t' := tk) (ch := [z, TI, TO, i1, i2]) (fun c o hb q => (sb.2 c (fun q' => hb (by simp [q']))).trans (hk c o (fun q' => hb (by simp [q'])) (fun q' => hb (by simp [q'])) (fun q' => hb (by simp [q'])) (fun q' => hb (by simp [q'])) q)) hf (Nat.le_refl _) new
    refine ⟨.ref s.heap.objs.size, _, I1, rfl, ⟨_, x, y, rfl, I.hok.fresh (Nat.le_refl _), rfl, fun l hl => by rw [Kd.inj I hl hqx]; exact hx, fun l hl => by rw [Kd.inj I hl hqy]; exact hy⟩, ⟨z'', ?_, ⟨v1, v2, ?_⟩, ?_, ?_⟩, fun c hcm => ?_⟩
    · exact (sb.2 _ D.TIz).trans (hk _ _ D.TIz D.TITO D.TIi1 D.TIi2 hTI)
    · exact (sb.2 _ D.TOz).trans TO'
    · exact Kd.itk st1'.1 fun o q => (sb.2 _ D.i1z).trans q
    · exact Kd.itk st2'.1 fun o q => (sb.2 _ D.i2z).trans q
    · have hlt : c < s.heap.objs.size := by
        have e' : c = z ∨ c = TI ∨ c = TO ∨ c = i1 ∨ c = i2 := by simpa using hcm
        rcases e' with q | q | q | q | q
        · rw [q]; exact hzl
        · rw [q]; exact Heap.lt_size hTI
        · rw [q]; exact Heap.lt_size hTO
        · rw [q]; obtain ⟨_, e1, _⟩ := Kd.ito h1; exact Heap.lt_size e1
        · rw [q]; obtain ⟨_, e2, _⟩ := Kd.ito h2; exact Heap.lt_size e2
      rw [upd_ne (Nat.ne_of_lt hlt)]
      exact (hf c hcm).1
  done := by
    intro X hP hw hK hc i pins s σ H E I hf st hg
    subst hP hw hK
    obtain ⟨hz, hTI, ⟨x0, y0, hTO⟩, h1, h2⟩ := st
    obtain ⟨xs, ys, hqx, hqy, hend⟩ := hg
    obtain ⟨its, rv, p, _⟩ := Kd.of I hqx
    obtain ⟨its2, rv2, p2, _⟩ := Kd.of I hqy
    have l1 : its.toArray.size = xs.length := by
      have := rv.length
      simp; omega
    have l2 : its2.toArray.size = ys.length := by
      have := rv2.length
      simp; omega
    refine wpAny_pyNext_zipD2_end (apart_sep D) (Kd.draws (A := X.A.in1) (I.ok.hd hc) i1 a D.l1i1 its.toArray k1) (Kd.draws (A := X.A.in1) (I.ok.hd hc) i2 b D.l2i2 its2.toArray k2) hz hTI hTO ⟨h1, p⟩ ⟨h2, p2⟩ (by omega) (by omega) (by omega) fun h' tk hk => ⟨rfl, I.turnedL (t' := tk) (ch := [z, TI, TO, i1, i2]) (fun c o hb q =>
      hk c o (fun q' => hb (by simp [q'])) (fun q' => hb (by simp [q'])) (fun q' => hb (by simp [q'])) (fun q' => hb (by simp [q'])) q) hf⟩
  self := fun A i s Q E st h => wpAny_pyIter_zip st.1 h
def iZipG (K : PySem.W.Frag) (ta : TA) : TI := fun σ H R => ta σ H fun vs H1 => ∃ a b k1 k2 xs ys, vs = [.ref a, .ref b] ∧ Kd.sq K H1 a xs k1 ∧ Kd.sq K H1 b ys k2 ∧ R (ItzG K k1 k2 a b) H1
theorem pi_zipG {X : Cx} {e e2 : Expr} {ta : TA} {p pos tpos : Pos} {elts : List Expr} {kk : Nat} (hg : Gl X "zip") (hm : X.mg "zip" = none) (ha : PA X [e, e2] ta)
    (hs : starEach [e, e2] X.env = (false, eval e X.env) :: starEach [e2] X.env := by rfl) (hpl : (backTo pos (starEach [e2] X.env)).any (·.1) = false := by rfl) :
    PI X (.Tuple elts kk tpos) (.Call (.Name "zip" p) [e, e2] [] pos) (iZipG X.K ta) := by
  refine ⟨fun pins s σ H R I h => ?_⟩
  refine Call_ (ld_blt I hg hm PyProof.Rows.boot_zip (PyProof.Rows.callWith_type1 (thn (ha.run pos pins s σ H _ I h) fun us s1 ⟨vs, H1, I1, r1, q1⟩ => ?_) hs hpl))
  obtain ⟨a, b, k1, k2, xs, ys, ex, hqx, hqy, q⟩ := q1
  subst ex
  cases r1 with
  | cons r rr =>
    cases rr with
    | cons r' rr =>
      cases rr
      cases r
      cases r'
      have fresh5 : ∀ c, c ∈ [s1.heap.objs.size + 4, s1.heap.objs.size + 2, s1.heap.objs.size + 3, s1.heap.objs.size, s1.heap.objs.size + 1] → FpOk X pins H1 c := fun c hcm => by
        have e' : c = s1.heap.objs.size + 4 ∨ c = s1.heap.objs.size + 2 ∨ c = s1.heap.objs.size + 3 ∨ c = s1.heap.objs.size ∨ c = s1.heap.objs.size + 1 := by simpa using hcm
        have hle : s1.heap.objs.size ≤ c := by
          rcases e' with z | z | z | z | z
          · rw [z]; exact Nat.le_add_right _ _
          · rw [z]; exact Nat.le_add_right _ _
          · rw [z]; exact Nat.le_add_right _ _
          · rw [z]; exact Nat.le_refl _
          · rw [z]; exact Nat.le_add_right _ _
        exact I1.fpOk hle (I1.hok.fresh hle)
      obtain ⟨its, rv, p1, lt1⟩ := Kd.of I1 hqx
      obtain ⟨its2, rv2, p2, lt2⟩ := Kd.of I1 hqy
      refine zip_begins2 (Kd.begins a its.toArray k1) (Kd.begins b its2.toArray k2) p1 p2 fun h' hz hTI hTO h1 h2 hsz hk => wpAny_pyIter_zip hz ?_
      have I2 : Inv X pins σ H1 { s1 with heap := h' } := I1.kept (t' := s1.toks) hk
      exact ⟨s1.heap.objs.size + 4, [s1.heap.objs.size + 4, s1.heap.objs.size + 2, s1.heap.objs.size + 3, s1.heap.objs.size, s1.heap.objs.size + 1], _, _, H1, rfl, I2, turn_zipG (PySem.W.ktu_apart s1.heap.objs.size a b lt1 lt2), ⟨hz, hTI, ⟨_, _, hTO⟩, Kd.start h1, Kd.start h2⟩, fresh5, q⟩
/-- a comprehension over zip of two sequences of one length -/
theorem lc_zipG {K : PySem.W.Frag} {k1 k2 : Kd} {a b : Addr} {xs ys : List V} {g : TG} {tt : TT} {te : TE} {vs : List Nat} {σ : L2.St} {H1 : Hp} {D : Addr} {Qd : Hp → Prop} (hl : xs.length = ys.length) (Pv : Nat → Hp → Prop) (h0 : Pv 0 (upd H1 D (.lst []))) (hq : ∀ i H, i ≤ xs.length → Pv i H → k1.sq K H a xs ∧ k2.sq K H b ys)
    (hs : ∀ i x y T H, xs[i]? = some x → ys[i]? = some y → Pv i H → H T = none → g (.ref T) (wipe σ vs) (upd H T (.tup [x, y])) fun σ2 H2 => wipe σ2 vs = wipe σ vs ∧ tt σ2 H2 fun b H3 =>
      if b = true then te σ2 H3 fun y H4 => ∃ acc, H4 D = some (.lst acc) ∧ acc.length < sizeLine ∧ Pv (i + 1) (upd H4 D (.lst (acc ++ [y]))) else Pv (i + 1) H3) (hd : ∀ H, Pv xs.length H → Qd H) :
    ∃ W : Nat → Nat → Hp → Prop, (∃ m, W 0 m (upd H1 D (.lst []))) ∧ ∀ i m H, W i m H →
      ((ItzG K k1 k2 a b).stop i H ∧ Qd H) ∨ ((ItzG K k1 k2 a b).go i H ∧ ∃ Nx : Hp → Prop, (∀ H', Nx H' → ∃ m', m' < m ∧ W (i + 1) m' H') ∧ ∀ x H', (ItzG K k1 k2 a b).yld i H x H' → g x (wipe σ vs) H' fun σ2 H2 => wipe σ2 vs = wipe σ vs ∧ tt σ2 H2 fun b H3 =>
        if b = true then te σ2 H3 fun y H4 => ∃ acc, H4 D = some (.lst acc) ∧ acc.length < sizeLine ∧ Nx (upd H4 D (.lst (acc ++ [y]))) else Nx H3) := by
  refine ⟨fun i m H => m = xs.length - i ∧ i ≤ xs.length ∧ Pv i H, ⟨xs.length, by simp, Nat.zero_le _, h0⟩, ?_⟩
  rintro i m H ⟨rfl, hi, p⟩
  obtain ⟨qx, qy⟩ := hq i H hi p
  by_cases hlt : i < xs.length
  · have hx : xs[i]? = some xs[i] := List.getElem?_eq_getElem hlt
    have hlt2 : i < ys.length := by omega
    have hy : ys[i]? = some ys[i] := List.getElem?_eq_getElem hlt2
    refine .inr ⟨⟨xs, ys, _, _, qx, qy, hx, hy⟩, Pv (i + 1), fun H' p' => ⟨xs.length - (i + 1), by omega, rfl, hlt, p'⟩, fun v H' y => ?_⟩
    obtain ⟨T, x', y', rfl, hT, rfl, f1, f2⟩ := y
    exact hs i x' y' T H (f1 xs qx) (f2 ys qy) p hT
  · have e : i = xs.length := by omega
    subst e
    exact .inl ⟨⟨xs, ys, qx, qy, .inl ⟨rfl, by omega⟩⟩, hd H p⟩
/-! ### one sequence, a list or a tuple -/
def Kd.it (K : PySem.W.Frag) (a : Addr) : Kd → It
  | .l => Itl K a
  | .t => Itt K a
def iA (K : PySem.W.Frag) (tl : TE) : TI := fun σ H R => ∃ k : Kd, tl σ H fun x H1 => ∃ a, x = .ref a ∧ (∃ xs, k.sq K H1 a xs) ∧ R (k.it K a) H1
theorem pi_A {X : Cx} {tg l : Expr} {tl : TE} (hl : PE X l tl) : PI X tg l (iA X.K tl) := by
  refine ⟨fun pins s σ H R I h => ?_⟩
  obtain ⟨k, h⟩ := h
  cases k with
  | l => exact (pi_list (tg := tg) hl).run pins s σ H R I h
  | t => exact (pi_tup (tg := tg) hl).run pins s σ H R I h
theorem lc_A {K : PySem.W.Frag} {k : Kd} {a : Addr} {xs : List V} {g : TG} {tt : TT} {te : TE} {vs : List Nat} {σ : L2.St} {H1 : Hp} {D : Addr} {Qd : Hp → Prop} (Pv : Nat → Hp → Prop) (h0 : Pv 0 (upd H1 D (.lst []))) (hl : ∀ i H, i ≤ xs.length → Pv i H → k.sq K H a xs)
    (hs : ∀ i x H, xs[i]? = some x → Pv i H → g x (wipe σ vs) H fun σ2 H2 => wipe σ2 vs = wipe σ vs ∧ tt σ2 H2 fun b H3 =>
      if b = true then te σ2 H3 fun y H4 => ∃ acc, H4 D = some (.lst acc) ∧ acc.length < sizeLine ∧ Pv (i + 1) (upd H4 D (.lst (acc ++ [y]))) else Pv (i + 1) H3) (hd : ∀ H, Pv xs.length H → Qd H) :
    ∃ W : Nat → Nat → Hp → Prop, (∃ m, W 0 m (upd H1 D (.lst []))) ∧ ∀ i m H, W i m H →
      ((k.it K a).stop i H ∧ Qd H) ∨ ((k.it K a).go i H ∧ ∃ Nx : Hp → Prop, (∀ H', Nx H' → ∃ m', m' < m ∧ W (i + 1) m' H') ∧ ∀ x H', (k.it K a).yld i H x H' → g x (wipe σ vs) H' fun σ2 H2 => wipe σ2 vs = wipe σ vs ∧ tt σ2 H2 fun b H3 =>
        if b = true then te σ2 H3 fun y H4 => ∃ acc, H4 D = some (.lst acc) ∧ acc.length < sizeLine ∧ Nx (upd H4 D (.lst (acc ++ [y]))) else Nx H3) := by
  cases k with
  | l => exact lc_list (K := K) (a := a) (xs := xs) Pv h0 hl hs hd
  | t => exact lc_tup (K := K) (a := a) (xs := xs) Pv h0 hl hs hd
/-- data that are a list or a tuple -/
theorem dp_seq {K : PySem.W.Frag} {H : Hp} {v : V} {d : PyData} {ds : List PyData} (h : Dp K H v d) (e : d = .list ds ∨ d = .tuple ds) : ∃ (k : Kd) (a : Addr) (xs : List V), v = .ref a ∧ k.sq K H a xs ∧ DpAll K H xs ds := by
  rcases e with rfl | rfl
  · obtain ⟨a, xs, h1, h2, h3⟩ := dp_list h
    exact ⟨.l, a, xs, h1, h2, h3⟩
  · obtain ⟨a, xs, h1, h2, h3⟩ := dp_tup h
    exact ⟨.t, a, xs, h1, h2, h3⟩
theorem Kd.len {K : PySem.W.Frag} {H : Hp} {a : Addr} {xs : List V} : ∀ {k : Kd}, k.sq K H a xs → SqL K H a xs ∨ SqT K H a xs
  | .l, h => .inl h
  | .t, h => .inr h
end VG

set_option maxRecDepth 100000
/-! Data without lists. -/
namespace VG
open PySem PySem.Spec PyProof.Rows L2
mutual
def noL : PyData → Bool
  | .list _ => false
  | .dict _ => false
  | .tuple ds => noLs ds
  | _ => true
def noLs : List PyData → Bool
  | [] => true
  | d :: ds => noL d && noLs ds
end
theorem sqT_wos {K : PySem.W.Frag} {S : List Addr} {G : Hp} {a : Addr} {xs : List V} (hS : ∀ b ∈ S, ∃ ys, G b = some (.lst ys)) (h : SqT K G a xs) : SqT K (wos S G) a xs := by
  have off : ∀ {o : HO}, G a = some o → (∀ ys, o ≠ .lst ys) → wos S G a = some o := fun {o} e n => by
    rw [wos_out]
    · exact e
    · intro z
      obtain ⟨ys, hy⟩ := hS a z
      rw [e] at hy
      exact n ys (Option.some.inj hy)
  rcases h with (h | ⟨o, h⟩) | h
  · exact .inl (.inl (off h fun _ z => nomatch z))
  · exact .inl (.inr ⟨o, off h fun _ z => nomatch z⟩)
  · exact .inr h
mutual
theorem Dp.wosT {K : PySem.W.Frag} {S : List Addr} {G : Hp} (hS : ∀ b ∈ S, ∃ ys, G b = some (.lst ys)) : ∀ (d : PyData) (v : V), noL d = true → Dp K G v d → Dp K (wos S G) v d
  | .none, _, _, h => by cases h; exact .non
  | .bool b, _, _, h => by cases h; exact .bl b
  | .int i, _, _, h => by cases h; exact .int i
  | .str x, _, _, h => by cases h; exact .str x
  | .list ds, _, n, _ => by cases n
  | .tuple ds, _, n, h => by
    cases h with
    | tup a b => exact .tup (sqT_wos hS a) (DpAll.wosT hS ds _ n b)
  | .dict _, _, n, _ => by cases n
theorem DpAll.wosT {K : PySem.W.Frag} {S : List Addr} {G : Hp} (hS : ∀ b ∈ S, ∃ ys, G b = some (.lst ys)) : ∀ (ds : List PyData) (vs : List V), noLs ds = true → DpAll K G vs ds → DpAll K (wos S G) vs ds
  | [], _, _, h => by cases h; exact .nil
  | d :: ds, _, n, h => by
    obtain ⟨n1, n2⟩ := Bool.and_eq_true_iff.mp (show (noL d && noLs ds) = true from n)
    cases h with
    | cons a b => exact .cons (Dp.wosT hS d _ n1 a) (DpAll.wosT hS ds _ n2 b)
end
theorem noLs_of {ds : List PyData} (h : ∀ d ∈ ds, noL d = true) : noLs ds = true := by
  induction ds with
  | nil => rfl
  | cons d ds ih =>
    show (noL d && noLs ds) = true
    rw [h d List.mem_cons_self, ih fun e he => h e (List.mem_cons_of_mem _ he)]
    rfl
/-- data on new addresses stand without what was there ahead -/
theorem newer_wos {S : List Addr} {H G : Hp} (hS : ∀ b ∈ S, ∃ o, H b = some o) : Same (newer H G) (wos S G) := fun b o e => by
  cases z : H b with
  | some u =>
    rw [newer_none z] at e
    cases e
  | none =>
    rw [newer_at z] at e
    rw [wos_out]
    · exact e
    · intro y
      obtain ⟨u, hu⟩ := hS b y
      rw [z] at hu
      cases hu
/-- a list that grows, of data without lists -/
theorem Acc.put {K : PySem.W.Frag} {S : List Addr} {D : Addr} {H G : Hp} {ds : List PyData} {d : PyData} {y : V} (c : Acc K S D H ds) (e : Same H G) (hS : ∀ b ∈ S, ∃ ys, G b = some (.lst ys)) (n : noL d = true) (hy : Dp K G y d) :
    ∃ acc, G D = some (.lst acc) ∧ acc.length = ds.length ∧ Acc K S D (upd G D (.lst (acc ++ [y]))) (ds ++ [d]) := by
  have c2 := c.on (Exs.of e) fun o h => e D o h
  obtain ⟨acc, h1, _⟩ := c2.ex
  exact c2.more (Dp.wosT (fun b hb => by
    rcases List.mem_cons.mp hb with rfl | hb
    · exact ⟨_, h1⟩
    · exact hS b hb) d y n hy)
/-- a plain call of a def with a star parameter, its reading named (for comprehensions) -/
def tCallR (sp : Sp) (E : XK) (t : TA) : TE := fun σ H Q => t σ H fun vs H1 => sp vs H1 Q E
theorem pe_named {X : Cx} {e : Expr} {sp : Sp} {E : XK} {t : TA} (h : PE X e (fun σ H Q => t σ H fun vs H1 => sp vs H1 Q E)) : PE X e (tCallR sp E t) := h
end VG

set_option maxRecDepth 100000
set_option linter.unusedVariables false
namespace Lw
open PySem PySem.Spec PyProof.Rows L2 VG
def isSeq : PyData → Bool
  | .tuple _ => true
  | .list _ => true
  | _ => false
def itemsD : PyData → List PyData
  | .tuple ds => ds
  | .list ds => ds
  | _ => []
theorem seq_form {d : PyData} (h : isSeq d = true) : d = .list (itemsD d) ∨ d = .tuple (itemsD d) := by
  cases d <;> first | exact .inl rfl | exact .inr rfl | cases h
theorem kit2 {K : PySem.W.Frag} {a : String} {b c r : Bool} (h1 : kitB a "list" = some b) (h2 : kitB a "tuple" = some c) (hr : (b || c) = r) : PySem.W.kitAny K (.type a) [.type "list", .type "tuple"] = some r := by
  refine kitAny_cons (kit_ty h1) (fun hb => kitAny_cons (kit_ty h2) (fun hc => ?_) (fun hc => ?_)) (fun hb => ?_)
  · rw [← hr, hb, hc]; exact kitAny_nil
  · rw [← hr, hb, hc]; rfl
  · rw [← hr, hb]; rfl
theorem kit_seq {K : PySem.W.Frag} : ∀ {v : V} {d : PyData} {H : Hp}, Dp K H v d → PySem.W.kitAny K (.type (tyN d)) [.type "list", .type "tuple"] = some (isSeq d)
  | _, _, _, .non => kit2 (a := "NoneType") (b := false) (c := false) (by decide +kernel) (by decide +kernel) rfl
  | _, _, _, .bl _ => kit2 (a := "bool") (b := false) (c := false) (by decide +kernel) (by decide +kernel) rfl
  | _, _, _, .int _ => kit2 (a := "int") (b := false) (c := false) (by decide +kernel) (by decide +kernel) rfl
  | _, _, _, .str _ => kit2 (a := "str") (b := false) (c := false) (by decide +kernel) (by decide +kernel) rfl
  | _, _, _, .lst _ _ => kit2 (a := "list") (b := true) (c := false) (by decide +kernel) (by decide +kernel) rfl
  | _, _, _, .tup _ _ => kit2 (a := "tuple") (b := false) (c := true) (by decide +kernel) (by decide +kernel) rfl
theorem clsv2 : Paired ClsV [.ty "list", .ty "tuple"] [.type "list", .type "tuple"] := .cons (.ty "list") (.cons (.ty "tuple") .nil)
theorem vint_ne {a b : Int} : decide (V.int a = V.int b) = decide (a = b) := by
  by_cases h : a = b
  · rw [h, decide_eq_true rfl, decide_eq_true rfl]
  · rw [decide_eq_false h, decide_eq_false fun z => h (V.int.inj z)]
structure NmQ (mg : Str → Option Value) : Prop where
  r : NmR mg
  list : mg "list" = none
  all : mg "all" = none
  zip : mg "zip" = none
section
variable {P : Program} {w : World} {K : PySem.W.Frag} {mg : Str → Option Value} {base : Heap}
def spCan (K : PySem.W.Frag) : Sp := fun vs H Q _ => ∃ (x : V) (d : PyData), vs = [x] ∧ Dp K H x d ∧ Q (.bl (okR d)) H
theorem scCan : FnScope ["value"] ["value"] (defScope s_can_be_ratio) := ⟨rfl, rfl, rfl, by decide +kernel, rfl, by decide +kernel, by decide +kernel⟩
theorem ok_can {f fW fR : Addr} {fd fdW fdR : FuncData} (F : Fun K "can_be_ratio" "can_be_ratio" s_can_be_ratio f fd) (FW : Fun K "_is_whole" "_is_whole" s__is_whole fW fdW) (FR : Fun K "is_ratio" "is_ratio" s_is_ratio fR fdR) (T : NmR mg)
    (mW : mg "_is_whole" = some (.ref fW)) (bW : Binds K fdW ["value"] []) (mR : mg "is_ratio" = some (.ref fR)) (bR : Binds K fdR ["value"] []) : FnOk P w K mg base CX0 3 f fd ["value"] (spCan K) := by
  refine F.ok scCan (fun vs H Q E h => ?_) (fun cdv A outer s H vs Q E hr h => ?_)
  · obtain ⟨x, d, rfl, _⟩ := h
    rfl
  · obtain ⟨x, d, rfl, hx, q⟩ := h
    refine ⟨_, pss_one (ps_ret (pe_or (pe_call (ok_whole FW T.w) (hr.mono (by omega)) (by rfl) mW FW.kp bW .nil pass0 (pa_cons (pv 0) pa_nil)) (pe_one (pe_call (ok_isRat FR FW T mW bW) hr (by rfl) mR FR.kp bR .nil pass0 (pa_cons (pv 0) pa_nil))))), ?_⟩
    refine ⟨_, rfl, x, d, rfl, hx, _, rfl, ?_⟩
    unfold okR at q
    cases e : whole d with
    | true =>
      rw [e] at q
      exact iteT q
    | false =>
      rw [e] at q
      exact iteF ⟨_, rfl, x, d, rfl, hx, q⟩
/-- whether all of some items are so, told by a list of truths -/
theorem all_bls {f : PyData → Bool} {ds : List PyData} : (ds.map f).all id = ds.all f := by
  rw [List.all_map]
  rfl
def factsOf (n : Int) (d : PyData) : Bool := isSeq d && (decide (((itemsD d).length : Int) = n) && (itemsD d).all okR)
def spFactors (K : PySem.W.Frag) : Sp := fun vs H Q _ => ∃ (x : V) (d : PyData) (n : Int), vs = [x, .int n] ∧ Dp K H x d ∧ (itemsD d).length ≤ 1000 ∧ ∀ H', Same H H' → Q (.bl (factsOf n d)) H'
theorem scFactors : FnScope ["value", "many", "item"] ["value", "many"] (defScope s_are_factors) := ⟨rfl, rfl, rfl, by decide +kernel, rfl, by decide +kernel, by decide +kernel⟩
theorem ok_factors {f fC : Addr} {fd fdC : FuncData} (F : Fun K "are_factors" "are_factors" s_are_factors f fd) (T : NmQ mg) (GC : FnOk P w K mg base CX0 3 fC fdC ["value"] (spCan K)) (mC : mg "can_be_ratio" = some (.ref fC)) (kC : PySem.W.keepIn K (.ref fC) = true) (bC : Binds K fdC ["value"] []) :
    FnOk P w K mg base CX0 4 f fd ["value", "many"] (spFactors K) := by
  refine F.ok scFactors (fun vs H Q E h => ?_) (fun cdv A outer s H vs Q E hr h => ?_)
  · obtain ⟨x, d, n, rfl, _⟩ := h
    rfl
  · obtain ⟨x, d, n, rfl, hx, hz, q⟩ := h
    have nd := scFactors.nd
    have two : (2 : Nat) ≤ sizeLine := by decide
    refine ⟨_, pss_one (ps_ret (pe_and (pe_callB call_isiT (by rfl) T.r.w.isi (by decide +kernel) (pa_cons (pv 0) (pa_cons (pe_tup (pa_cons (pe_bltn (v := .ty "list") (by rfl) T.list (by decide +kernel) rfl) (pa_cons (pe_bltn (v := .ty "tuple") (by rfl) T.r.tup (by decide +kernel) rfl) pa_nil))) pa_nil)))
      (pe_and (pe_cmpR op_eq (pe_callB call_len_seq (by rfl) T.r.len PySem.boot_len (pa_cons (pv 0) pa_nil)) (pv 1) (nomark _))
      (pe_one (pe_callB (cr_all rfl) (by rfl) T.all (by decide +kernel) (pa_cons (pe_lc (own := [("item", 2)]) (g := gName 2) (tt := tYes) rfl nd (pi_A (pv 0)) (blkOk_by (own := [("item", 2)]) (N := ["value", "many", "item"]) (sc := defScope s_are_factors) (by decide +kernel))
        (fun _ _ _ _ _ => pg_name (i := 2) nd rfl (Or.inl rfl)) (fun _ _ _ _ _ => pts_nil) (fun _ _ _ _ _ => pe_call GC hr (by rfl) mC kC bC .nil pass0 (pa_cons (pv 2) pa_nil))) pa_nil)))))), ?_⟩
    refine ⟨_, rfl, two, fun Z hZ => ⟨_, Z, _, _, _, _, rfl, upd_same, clsv2, Dp.tyx (Dp.same (same_upd hZ) _ _ hx), kit_seq hx, _, rfl, ?_⟩⟩
    have mZ := same_upd (o := .tup [.ty "list", .ty "tuple"]) hZ
    unfold factsOf at q
    cases e : isSeq d with
    | false =>
      rw [e] at q
      exact iteF (q _ mZ)
    | true =>
      rw [e] at q
      obtain ⟨k, a, xs, rfl, hk, hd⟩ := dp_seq hx (seq_form e)
      have hk2 := Kd.same mZ hk
      have hlen := DpAll.len hd
      refine iteT ⟨_, rfl, a, xs, rfl, Kd.len hk2, _, rfl, rfl, _, rfl, ?_⟩
      rw [vint_ne, hlen]
      cases e2 : decide (((itemsD d).length : Int) = n) with
      | false =>
        rw [e2] at q
        exact iteF (q _ mZ)
      | true =>
        rw [e2] at q
        refine iteT ⟨k, _, rfl, a, rfl, ⟨xs, hk2⟩, fun D hD => lc_A (K := K) (a := a) (xs := xs) (fun i G => Same H G ∧ G D = some (.lst ((((itemsD d).take i).map okR).map V.bl))) ⟨mZ.trans (same_upd hD), upd_same⟩ (fun i G _ c => Kd.same c.1 hk) (fun i y G hy c => ?_) (fun G c => ?_)⟩
        · obtain ⟨u, hu, hyu⟩ := DpAll.at' hd hy
          have lt : i < (itemsD d).length := (List.getElem?_eq_some_iff.mp hu).1
          have et : (itemsD d).take (i + 1) = (itemsD d).take i ++ [u] := by
            rw [List.take_add_one, hu]
            rfl
          have hDH : H D = none := by
            cases z : H D with
            | none => rfl
            | some o =>
              rw [mZ _ _ z] at hD
              cases hD
          refine ⟨rfl, y, rfl, y, u, rfl, Dp.same c.1 _ _ hyu, _, c.2, ?_, fun b' o h => ?_, ?_⟩
          · rw [List.length_map, List.length_map, List.length_take]
            exact Nat.lt_of_le_of_lt (Nat.min_le_right _ _) (Nat.lt_of_le_of_lt hz (by decide))
          · rw [upd_ne (ne_of_none h hDH)]
            exact c.1 _ _ h
          · rw [upd_same, et, List.map_append, List.map_append]
            rfl
        · have c2 := c.2
          rw [hlen, List.take_length] at c2
          refine ⟨D, _, rfl, SqL.of c2, ?_⟩
          rw [all_bls]
          exact q G c.1
def ratP (d : PyData) : PyData := .tuple [.int (ratD d).1, .int (ratD d).2]
theorem ratP_noL (d : PyData) : noL (ratP d) = true := rfl
theorem ratP_dp {H : Hp} {T : Addr} {s : Int × Int} (h : SqT K H T [.int s.1, .int s.2]) : Dp K H (.ref T) (.tuple [.int s.1, .int s.2]) := .tup h (.cons (.int _) (.cons (.int _) .nil))
def spRats (K : PySem.W.Frag) : Sp := fun vs H Q _ => ∃ (x : V) (d : PyData), vs = [x] ∧ Dp K H x d ∧ isSeq d = true ∧ (∀ e ∈ itemsD d, okR e = true) ∧ (itemsD d).length ≤ 1000 ∧
  ∀ (L : Addr) (ys : List V) (H' : Hp), Same H H' → H' L = some (.lst ys) → H L = none → DpAll K (wos [L] H') ys ((itemsD d).map ratP) → Q (.ref L) H'
theorem scRats : FnScope ["factors", "factor"] ["factors"] (defScope s_ratios_of) := ⟨rfl, rfl, rfl, by decide +kernel, rfl, by decide +kernel, by decide +kernel⟩
theorem ok_rats {f fC : Addr} {fd fdC : FuncData} (F : Fun K "ratios_of" "ratios_of" s_ratios_of f fd) (GC : FnOk P w K mg base CX0 3 fC fdC ["value"] (spRat K)) (mC : mg "ratio_of" = some (.ref fC)) (kC : PySem.W.keepIn K (.ref fC) = true) (bC : Binds K fdC ["value"] []) :
    FnOk P w K mg base CX0 4 f fd ["factors"] (spRats K) := by
  refine F.ok scRats (fun vs H Q E h => ?_) (fun cdv A outer s H vs Q E hr h => ?_)
  · obtain ⟨x, d, rfl, _⟩ := h
    rfl
  · obtain ⟨x, d, rfl, hx, e, ho, hz, q⟩ := h
    have nd := scRats.nd
    refine ⟨_, pss_one (ps_ret (pe_lc (own := [("factor", 1)]) (g := gName 1) (tt := tYes) rfl nd (pi_A (pv 0)) (blkOk_by (own := [("factor", 1)]) (N := ["factors", "factor"]) (sc := defScope s_ratios_of) (by decide +kernel))
        (fun _ _ _ _ _ => pg_name (i := 1) nd rfl (Or.inl rfl)) (fun _ _ _ _ _ => pts_nil) (fun _ _ _ _ _ => pe_call GC hr (by rfl) mC kC bC .nil pass0 (pa_cons (pv 1) pa_nil)))), ?_⟩
    obtain ⟨k, a, xs, rfl, hk, hd⟩ := dp_seq hx (seq_form e)
    have hlen := DpAll.len hd
    refine ⟨k, _, rfl, a, rfl, ⟨xs, hk⟩, fun D hD => lc_A (K := K) (a := a) (xs := xs) (fun i G => Same H G ∧ Acc K [] D G (((itemsD d).take i).map ratP)) ⟨same_upd hD, Acc.start⟩ (fun i G _ c => Kd.same c.1 hk) (fun i y G hy c => ?_) (fun G c => ?_)⟩
    · obtain ⟨u, hu, hyu⟩ := DpAll.at' hd hy
      have lt : i < (itemsD d).length := (List.getElem?_eq_some_iff.mp hu).1
      have et : (itemsD d).take (i + 1) = (itemsD d).take i ++ [u] := by
        rw [List.take_add_one, hu]
        rfl
      refine ⟨rfl, y, rfl, y, u, rfl, Dp.same c.1 _ _ hyu, ho u (List.mem_of_getElem? hu), fun T G1 m1 t1 => ?_⟩
      obtain ⟨acc, h1, h2, h3⟩ := c.2.put m1 (fun _ h => by cases h) (ratP_noL u) (ratP_dp t1)
      refine ⟨acc, h1, ?_, fun b' o h => ?_, ?_⟩
      · rw [h2, List.length_map, List.length_take]
        exact Nat.lt_of_le_of_lt (Nat.min_le_right _ _) (Nat.lt_of_le_of_lt hz (by decide))
      · rw [upd_ne (ne_of_none h hD)]
        exact m1 _ _ (c.1 _ _ h)
      · rw [et, List.map_append]
        exact h3
    · have c2 := c.2
      rw [hlen, List.take_length] at c2
      obtain ⟨acc, h1, h2⟩ := c2.ex
      exact q D acc G c.1 h1 hD h2
end
end Lw

set_option maxRecDepth 100000
/-! enumerate of a sequence, a list or a tuple. -/
namespace VG
open PySem PySem.Spec PyProof.Rows L2
set_option maxHeartbeats 1000000 in
theorem meets_enum1 {v : Value} {o : Obj} {H : Heap → Prop} (B : Begins v o H) :
    Meets (Builtin.«enumerate.__new__» ⟨[.type "enumerate", v], []⟩) (fun _ R s => H s.heap ∧
      R (.ok (.ret (.ref (s.heap.push o).objs.size))) { s with heap := (s.heap.push o).push { cls := .type "enumerate", data := .fields #[.none, .bool false, .ref s.heap.objs.size, rawInt 0, .none, .none] } }) :=
  .of_wp fun prog w A R s h => by
    obtain ⟨hp, g, d, tk, os⟩ := s
    obtain ⟨h1, h⟩ := h
    have hsub := sub_enumerate
    have q1 : ∀ {B' : Around} {E : Value → Shared → Prop} {Q : Value → Shared → Prop}, Q (.ref hp.objs.size) ⟨hp.push o, g, d, tk, os⟩ → wpAny (model prog w) B' (pyIter v) Q E ⟨hp, g, d, tk, os⟩ := fun q => B.iter prog w _ _ ⟨hp, g, d, tk, os⟩ _ h1 q
    wp_walk using q1
    refine wpAny_stack_any fun st => wpAny_pure ?_
    split
    · rename_i c _ _ _ _ _
      cases (c == Value.type "enumerate") <;> (wp_walk using q1; exact ⟨_, rfl, h⟩)
    · wp_walk using q1
      exact ⟨_, rfl, h⟩
section
variable {prog : Program} {w : World} {A : Around} {E : Value → Shared → Prop} {s : Shared}
theorem call_enum1 {v : Value} {o : Obj} {H : Heap → Prop} {Q : Value → Shared → Prop} (B : Begins v o H) (h1 : H s.heap)
    (h : ∀ h', IsEnum h' (s.heap.objs.size + 1) s.heap.objs.size 0 .none → h'.get? s.heap.objs.size = some o → (∀ b o, s.heap.get? b = some o → h'.get? b = some o) → Q (.ref (s.heap.objs.size + 1)) { s with heap := h' }) :
    wpAny (model prog w) A (call (.type "enumerate") [v]) Q E s := by
  refine callType_new F.called_enumerate (by decide) (F.typeCall_enumerate_1 _) (F.newCall_enumerate_1 _) (fun obj => F.args_object_init_2 obj _) F.entry_enumerate_new (meets_enum1 B) ⟨h1, ?_⟩
  have hz : (s.heap.push o).objs.size = s.heap.objs.size + 1 := Heap.size_push ..
  have he : IsEnum ((s.heap.push o).push { cls := .type "enumerate", data := .fields #[.none, .bool false, .ref s.heap.objs.size, rawInt 0, .none, .none] }) (s.heap.objs.size + 1) s.heap.objs.size 0 .none := by
    have z := Heap.get?_push_size (s.heap.push o) (o := { cls := .type "enumerate", data := .fields #[.none, .bool false, .ref s.heap.objs.size, rawInt 0, .none, .none] }) rfl
    rw [hz] at z
    exact z
  show _ ∧ _
  rw [hz]
  exact ⟨⟨_, he, rfl⟩, h _ he (Heap.get?_push_of_some _ (Heap.get?_push_size _ B.free)) fun b o x => Heap.get?_push_of_some _ (Heap.get?_push_of_some _ x)⟩
end
/-- the items of a sequence, with their numbers, in new pairs -/
def IteG (K : PySem.W.Frag) (k : Kd) (a : Addr) : It :=
  ⟨fun i H => ∃ (xs : List V) (x : V), k.sq K H a xs ∧ xs[i]? = some x, fun i H v H' => ∃ T x, v = .ref T ∧ H T = none ∧ H' = upd H T (.tup [.int (i : Nat), x]) ∧ ∀ xs, k.sq K H a xs → xs[i]? = some x, fun i H => ∃ xs : List V, k.sq K H a xs ∧ xs.length = i⟩
theorem turn_enumG {P : Program} {w : World} {K : PySem.W.Frag} {elts : List Expr} {kk : Nat} {tpos : Pos} {k : Kd} {a e it : Addr} (n1 : a ≠ it) (n2 : a ≠ e) (n3 : e ≠ it) :
    Turn P w K (.Tuple elts kk tpos) (IteG K k a) [e, it] e (fun i h => (∃ old, IsEnum h e it ((i : Nat) : Int) old) ∧ k.iter h it a i) where
  mem := by simp
  obj := fun i h st b hb => by
    obtain ⟨⟨old, he⟩, hi⟩ := st
    rcases (show b = e ∨ b = it by simpa using hb) with rfl | rfl
    · exact ⟨_, he, fun v q => nomatch q⟩
    · exact Kd.ito hi
  keep := fun i h h' st f => by
    obtain ⟨⟨old, he⟩, hi⟩ := st
    exact ⟨⟨old, f e (by simp) _ he⟩, Kd.itk hi fun o q => f it (by simp) o q⟩
  item := by
    intro X hP hw hK hc i pins s σ H E I hf st hg
    subst hP hw hK
    obtain ⟨⟨old, he⟩, hit⟩ := st
    obtain ⟨xs, x, hq, hx⟩ := hg
    obtain ⟨its, rv, p, _⟩ := Kd.of I hq
    obtain ⟨u, hu, ru⟩ := rv.get hx
    have hel : e < s.heap.objs.size := Heap.lt_size he
    have hil : it < s.heap.objs.size := by
      obtain ⟨_, q, _⟩ := Kd.ito hit
      exact Heap.lt_size q
    have lt : i < its.toArray.size := by
      obtain ⟨q, _⟩ := List.getElem?_eq_some_iff.mp hu
      simpa using q
    refine wpAny_pyNext_enum_itemC (Kd.draws (A := X.A.in1) (I.ok.hd hc) it a n1 its.toArray k) he ⟨hit, p⟩ lt n3 (by simp [n3, n2.symm]) fun v h' tk q1 ho hs hT hsz hk => ?_
    have ev : v = u := by
      have q1 : its.toArray[i]? = some v := q1
      rw [show its.toArray[i]? = some u by simpa using hu] at q1
      exact (Option.some.inj q1).symm
    subst ev
    refine ⟨_, rfl, wpAny_letOwnedTupleGo_enum (s := { s with heap := h', toks := tk + 1 }) ho fun h'' he' sb => ?_⟩
    have hT2 : h''.get? s.heap.objs.size = some { cls := .type "tuple", data := .seq #[.int i tk, v] } := (sb.2 _ (Nat.ne_of_gt hel)).trans hT
    have I1 : Inv X pins σ (upd H s.heap.objs.size (.tup [.int (i : Nat), x])) { s with heap := h'', toks := tk + 1 } :=
      I.turnedNew (ch := [e, it]) (fun b ob hb q => (sb.2 b (fun z => hb (by simp [z]))).trans (hk b ob (fun z => hb (by simp [z])) (fun z => hb (by simp [z])) q)) hf (Nat.le_refl _)
        ⟨by show 2 ≤ sizeLine; decide, [.int i tk, v], .cons ⟨_, rfl⟩ (.cons ru .nil), ⟨_, hT2, rfl, _, rfl⟩⟩
    refine ⟨.ref s.heap.objs.size, _, I1, rfl, ⟨_, x, rfl, I.hok.fresh (Nat.le_refl _), rfl, fun ys hy => by rw [Kd.inj I hy hq]; exact hx⟩, ⟨⟨v, ?_⟩, Kd.itk hs.1 fun o q => (sb.2 it (Ne.symm n3)).trans q⟩, fun b hb => ?_⟩
    · have e1 : ((i + 1 : Nat) : Int) = (i : Int) + 1 := by omega
      rw [e1]
      exact he'
    · have hb' : b < s.heap.objs.size := by
        rcases (show b = e ∨ b = it by simpa using hb) with rfl | rfl
        · exact hel
        · exact hil
      rw [upd_ne (Nat.ne_of_lt hb')]
      exact (hf b hb).1
  done := by
    intro X hP hw hK hc i pins s σ H E I hf st hg
    subst hP hw hK
    obtain ⟨⟨old, he⟩, hit⟩ := st
    obtain ⟨xs, hq, hl⟩ := hg
    obtain ⟨its, rv, p, _⟩ := Kd.of I hq
    have l1 : its.toArray.size = i := by
      have := rv.length
      simp
      omega
    subst l1
    refine wpAny_pyNext_enum_endD (Kd.draws (A := X.A.in1) (I.ok.hd hc) it a n1 its.toArray k) he ⟨hit, p⟩ fun h' eb => ⟨rfl, I.turnedL (t' := s.toks) (ch := [e, it]) (fun b o hb q => eb b o (fun z => hb (by simp [z])) q) hf⟩
  self := fun A i s Q E st h => by
    obtain ⟨⟨_, he⟩, _⟩ := st
    exact wpAny_pyIter_enum he h
def iEnumG (K : PySem.W.Frag) (ta : TA) : TI := fun σ H R => ta σ H fun vs H1 => ∃ a k xs, vs = [.ref a] ∧ Kd.sq K H1 a xs k ∧ R (IteG K k a) H1
theorem pi_enumG {X : Cx} {e : Expr} {ta : TA} {p pos tpos : Pos} {elts : List Expr} {kk : Nat} (hg : Gl X "enumerate") (hm : X.mg "enumerate" = none) (ha : PA X [e] ta) (hs : starEach [e] X.env = [(false, eval e X.env)] := by rfl) :
    PI X (.Tuple elts kk tpos) (.Call (.Name "enumerate" p) [e] [] pos) (iEnumG X.K ta) := by
  refine ⟨fun pins s σ H R I h => ?_⟩
  refine Call_ (ld_blt I hg hm boot_enumerate (PyProof.Rows.callWith_type1 (thn (ha.run pos pins s σ H _ I h) fun us s1 ⟨vs, H1, I1, r1, q1⟩ => ?_) hs rfl))
  obtain ⟨a, k, xs, ex, hq, q⟩ := q1
  subst ex
  cases r1 with
  | cons r rr =>
    cases rr
    cases r
    obtain ⟨its, rv, p', lt⟩ := Kd.of I1 hq
    refine call_enum1 (Kd.begins a its.toArray k) p' fun h' he hit hk => wpAny_pyIter_enum he ?_
    have I2 : Inv X pins σ H1 { s1 with heap := h' } := I1.kept (t' := s1.toks) hk
    refine ⟨s1.heap.objs.size + 1, [s1.heap.objs.size + 1, s1.heap.objs.size], _, _, H1, rfl, I2, turn_enumG (k := k) (a := a) (Nat.ne_of_lt lt) (Nat.ne_of_lt (Nat.lt_succ_of_lt lt)) (Nat.succ_ne_self _), ⟨⟨.none, he⟩, Kd.start hit⟩, fun b hb => ?_, q⟩
    have hle : s1.heap.objs.size ≤ b := by
      rcases (show b = s1.heap.objs.size + 1 ∨ b = s1.heap.objs.size by simpa using hb) with z | z
      · rw [z]
        exact Nat.le_succ _
      · rw [z]
        exact Nat.le_refl _
    exact I1.fpOk hle (I1.hok.fresh hle)
/-- a loop over enumerate of a sequence -/
theorem for_enumG {K : PySem.W.Frag} {k : Kd} {a : Addr} {xs : List V} {g : TG} {tb : TS} {D : Ends} {σ : L2.St} {H : Hp} (Pv : Nat → L2.St → Hp → Prop) (h0 : Pv 0 σ H) (hl : ∀ i σ H, Pv i σ H → k.sq K H a xs)
    (hs : ∀ (i : Nat) (x : V) (T : Addr) (σ : L2.St) (H : Hp), xs[i]? = some x → Pv i σ H → H T = none → g (.ref T) σ (upd H T (.tup [.int (i : Nat), x])) fun σ2 H2 => tb { D with nx := Pv (i + 1), ct := Pv (i + 1), bk := D.nx } σ2 H2) (hd : ∀ σ H, Pv xs.length σ H → D.nx σ H) :
    ∃ W : Nat → Nat → L2.St → Hp → Prop, (∃ m, W 0 m σ H) ∧ ∀ i m σ H, W i m σ H →
      ((IteG K k a).stop i H ∧ D.nx σ H) ∨ ((IteG K k a).go i H ∧ ∃ N : L2.St → Hp → Prop, (∀ σ' H', N σ' H' → ∃ m', m' < m ∧ W (i + 1) m' σ' H') ∧ ∀ v H', (IteG K k a).yld i H v H' → g v σ H' fun σ2 H2 => tb { D with nx := N, ct := N, bk := D.nx } σ2 H2) := by
  refine ⟨fun i m σ H => m = xs.length - i ∧ i ≤ xs.length ∧ Pv i σ H, ⟨_, rfl, Nat.zero_le _, h0⟩, ?_⟩
  rintro i m σ H ⟨rfl, hi, p⟩
  have q := hl i σ H p
  by_cases lt : i < xs.length
  · have hx : xs[i]? = some xs[i] := List.getElem?_eq_getElem lt
    refine .inr ⟨⟨xs, _, q, hx⟩, Pv (i + 1), fun σ' H' p' => ⟨xs.length - (i + 1), by omega, rfl, lt, p'⟩, fun v H' y => ?_⟩
    obtain ⟨T, x', rfl, hT, rfl, f⟩ := y
    exact hs i x' T σ H (f xs q) p hT
  · obtain rfl : i = xs.length := by omega
    exact .inl ⟨⟨xs, q, rfl⟩, hd σ H p⟩
end VG

set_option maxRecDepth 100000
set_option linter.unusedVariables false
namespace Lw
open PySem PySem.Spec PyProof.Rows L2 VG
section
variable {P : Program} {w : World} {K : PySem.W.Frag} {mg : Str → Option Value} {base : Heap}
def isBoolD : PyData → Bool
  | .bool _ => true
  | _ => false
def rowOk (n : Int) : PyData → Bool
  | .tuple [f, b, s] => factsOf n f && (okR b && isBoolD s)
  | _ => false
/-- a row as the program keeps it -/
def rowD : PyData → PyData
  | .tuple [f, b, s] => .tuple [.tuple ((itemsD f).map ratP), ratP b, s]
  | d => d
def wideRow : PyData → Prop
  | .tuple (f :: _) => (itemsD f).length ≤ 1000
  | _ => True
theorem three_of {H : Hp} {xs : List V} {ds : List PyData} (hd : DpAll K H xs ds) (h : xs.length = 3) : ∃ d1 d2 d3, ds = [d1, d2, d3] := by
  have e := (DpAll.len hd).symm.trans h
  match ds, e with
  | [a, b, c], _ => exact ⟨a, b, c, rfl⟩
theorem three_no {ds : List PyData} (n : Int) (h : ds.length ≠ 3) : rowOk n (.tuple ds) = false := by
  match ds, h with
  | [], _ => rfl
  | [_], _ => rfl
  | [_, _], _ => rfl
  | [_, _, _], h => exact absurd rfl h
  | _ :: _ :: _ :: _ :: _, _ => rfl
def spRowOf (K : PySem.W.Frag) : Sp := fun vs H Q _ => ∃ (x : V) (d : PyData) (n : Int), vs = [x, .int n] ∧ Dp K H x d ∧ wideRow d ∧ (rowOk n d = true → ∀ (T : Addr) (H' : Hp), Same H H' → Dp K H' (.ref T) (rowD d) → Q (.ref T) H') ∧
  (rowOk n d = false → ∀ H', Same H H' → Q .non H')
theorem scRowOf : FnScope ["value", "size", "factors", "bound", "strict"] ["value", "size"] (defScope s__row_of) := ⟨rfl, rfl, rfl, by decide +kernel, rfl, by decide +kernel, by decide +kernel⟩
theorem ok_rowOf {f fF fC fR fT : Addr} {fd fdF fdC fdR fdT : FuncData} (F : Fun K "_row_of" "_row_of" s__row_of f fd) (T : NmQ mg) (GF : FnOk P w K mg base CX0 4 fF fdF ["value", "many"] (spFactors K)) (mF : mg "are_factors" = some (.ref fF)) (kF : PySem.W.keepIn K (.ref fF) = true) (bF : Binds K fdF ["value", "many"] [])
    (GC : FnOk P w K mg base CX0 3 fC fdC ["value"] (spCan K)) (mC : mg "can_be_ratio" = some (.ref fC)) (kC : PySem.W.keepIn K (.ref fC) = true) (bC : Binds K fdC ["value"] [])
    (GR : FnOk P w K mg base CX0 4 fR fdR ["factors"] (spRats K)) (mR : mg "ratios_of" = some (.ref fR)) (kR : PySem.W.keepIn K (.ref fR) = true) (bR : Binds K fdR ["factors"] [])
    (GT : FnOk P w K mg base CX0 3 fT fdT ["value"] (spRat K)) (mT : mg "ratio_of" = some (.ref fT)) (kT : PySem.W.keepIn K (.ref fT) = true) (bT : Binds K fdT ["value"] []) :
    FnOk P w K mg base CX0 5 f fd ["value", "size"] (spRowOf K) := by
  refine F.ok scRowOf (fun vs H Q E h => ?_) (fun cdv A outer s H vs Q E hr h => ?_)
  · obtain ⟨x, d, n, rfl, _⟩ := h
    rfl
  · obtain ⟨x, d, n, rfl, hx, hw, q1, q0⟩ := h
    have nd := scRowOf.nd
    have three : (3 : Nat) ≤ sizeLine := by decide
    have hr3 : Room 3 _ := hr.mono (by decide)
    refine ⟨_, pss_cons (ps_if (PW.pt (pw_or (pt_not (pt_val (pe_callB call_isi (by rfl) T.r.w.isi (by decide +kernel) (pa_cons (pv 0) (pa_cons (pe_bltn (v := .ty "tuple") (by rfl) T.r.tup (by decide +kernel) rfl) pa_nil)))))
        (pw_or1 (pt_cmpR op_ne (pe_callB call_len_seq (by rfl) T.r.len PySem.boot_len (pa_cons (pv 0) pa_nil)) pe_int (nomark _))))) (pss_one (ps_ret pe_non)) pss_nil)
      (pss_cons (ps_asg (pv 0) (pg_tup (by rfl) (pgs_cons (pg_name (i := 2) nd rfl (Or.inl rfl)) (pgs_cons (pg_name (i := 3) nd rfl (Or.inl rfl)) (pgs_cons (pg_name (i := 4) nd rfl (Or.inl rfl)) pgs_nil)))))
      (pss_cons (ps_if (PW.pt (pw_or (pt_not (pt_val (pe_call GF hr (by rfl) mF kF bF .nil pass0 (pa_cons (pv 2) (pa_cons (pv 1) pa_nil))))) (pw_or (pt_not (pt_val (pe_call GC hr3 (by rfl) mC kC bC .nil pass0 (pa_cons (pv 3) pa_nil))))
          (pw_or1 (pt_not (pt_val (pe_callB call_isi (by rfl) T.r.w.isi (by decide +kernel) (pa_cons (pv 4) (pa_cons (pe_bltn (v := .ty "bool") (by rfl) T.r.w.bool (by decide +kernel) rfl) pa_nil))))))))) (pss_one (ps_ret pe_non)) pss_nil)
      (pss_one (ps_ret (pe_tup (pa_cons (pe_callTy call_tuple_of (by rfl) T.r.tup (by decide +kernel) (pa_cons (pe_call GR hr (by rfl) mR kR bR .nil pass0 (pa_cons (pv 2) pa_nil)) pa_nil)) (pa_cons (pe_call GT hr3 (by rfl) mT kT bT .nil pass0 (pa_cons (pv 3) pa_nil)) (pa_cons (pv 4) pa_nil)))))))), ?_⟩
    have q0' : rowOk n d = false → Q .non H := fun e => q0 e H (Same.refl H)
    cases hx with
    | non => exact ⟨_, rfl, _, _, _, _, false, rfl, .ty "tuple", .base .non, kit_ty (by decide +kernel), _, rfl, iteT (iteT (q0' rfl))⟩
    | bl b => exact ⟨_, rfl, _, _, _, _, false, rfl, .ty "tuple", .base (.bl b), kit_ty (by decide +kernel), _, rfl, iteT (iteT (q0' rfl))⟩
    | int i => exact ⟨_, rfl, _, _, _, _, false, rfl, .ty "tuple", .base (.int i), kit_ty (by decide +kernel), _, rfl, iteT (iteT (q0' rfl))⟩
    | str z => exact ⟨_, rfl, _, _, _, _, false, rfl, .ty "tuple", .base (.str z), kit_ty (by decide +kernel), _, rfl, iteT (iteT (q0' rfl))⟩
    | lst hs hd => exact ⟨_, rfl, _, _, _, _, false, rfl, .ty "tuple", tyx_list hs, kit_ty (by decide +kernel), _, rfl, iteT (iteT (q0' rfl))⟩
    | @tup a xs ds hs hd =>
      refine ⟨_, rfl, _, _, _, _, true, rfl, .ty "tuple", tyx_tup hs, kit_ty (by decide +kernel), _, rfl, iteF ?_⟩
      refine ⟨_, rfl, a, xs, rfl, .inr hs, rfl, _, rfl, ?_⟩
      have hlen := DpAll.len hd
      refine ite2 (fun h => ?_) (fun h => ?_)
      · refine q0' (three_no n fun z => ?_)
        rw [hlen, z] at h
        exact absurd h (by decide)
      · have n3 : xs.length = 3 := by
          by_cases z : xs.length = 3
          · exact z
          · have w : decide (V.int (xs.length : Int) = V.int 3) = false := decide_eq_false fun y => z (by have := V.int.inj y; omega)
            rw [w] at h
            exact absurd rfl h
        obtain ⟨fa, b, st, rfl⟩ := three_of hd n3
        obtain ⟨y1, y2, y3, rfl, h1, h2, h3⟩ := dpAll3 hd
        have hw : (itemsD fa).length ≤ 1000 := hw
        have er : rowOk n (.tuple [fa, b, st]) = (factsOf n fa && (okR b && isBoolD st)) := rfl
        rw [er] at q1 q0 q0'
        clear h er
        refine ⟨_, rfl, a, _, rfl, hs, rfl, y1, _, rfl, y2, _, rfl, y3, _, rfl, rfl, ?_⟩
        refine ⟨_, rfl, _, rfl, y1, fa, n, rfl, h1, hw, fun H1 m1 => ⟨_, rfl, ?_⟩⟩
        cases e1 : factsOf n fa with
        | false => exact iteT (iteT (q0 (by rw [e1]; rfl) H1 m1))
        | true =>
          refine iteF ⟨_, rfl, y2, b, rfl, Dp.same m1 _ _ h2, _, rfl, ?_⟩
          cases e2 : okR b with
          | false => exact iteT (iteT (q0 (by rw [e1, e2]; rfl) H1 m1))
          | true =>
            have fin : isBoolD st = false → Q .non H1 := fun z => q0 (by rw [e1, e2, z]; rfl) H1 m1
            have h3' := Dp.same m1 _ _ h3
            have hh3 := h3
            refine iteF ?_
            cases h3' with
            | non => exact ⟨_, rfl, _, _, _, _, false, rfl, .ty "bool", .base .non, kit_ty (by decide +kernel), _, rfl, iteT (fin rfl)⟩
            | int i => exact ⟨_, rfl, _, _, _, _, false, rfl, .ty "bool", .base (.int i), kit_ty (by decide +kernel), _, rfl, iteT (fin rfl)⟩
            | str z => exact ⟨_, rfl, _, _, _, _, false, rfl, .ty "bool", .base (.str z), kit_ty (by decide +kernel), _, rfl, iteT (fin rfl)⟩
            | lst g1 g2 => exact ⟨_, rfl, _, _, _, _, false, rfl, .ty "bool", tyx_list g1, kit_ty (by decide +kernel), _, rfl, iteT (fin rfl)⟩
            | tup g1 g2 => exact ⟨_, rfl, _, _, _, _, false, rfl, .ty "bool", tyx_tup g1, kit_ty (by decide +kernel), _, rfl, iteT (fin rfl)⟩
            | bl c =>
              refine ⟨_, rfl, _, _, _, _, true, rfl, .ty "bool", .base (.bl c), kit_ty (by decide +kernel), _, rfl, iteF ?_⟩
              obtain ⟨e3, e4⟩ := Bool.and_eq_true_iff.mp (show (isSeq fa && (decide (((itemsD fa).length : Int) = n) && (itemsD fa).all okR)) = true from e1)
              obtain ⟨_, e5⟩ := Bool.and_eq_true_iff.mp e4
              refine ⟨_, rfl, y1, fa, rfl, Dp.same m1 _ _ h1, e3, List.all_eq_true.mp e5, hw, fun L ys H2 m2 hL _ hd2 => ?_⟩
              refine ⟨_, _, rfl, .inl ⟨SqL.of hL, fun T1 hT1 => ?_⟩⟩
              have m3 := same_upd (o := .tup ys) hT1
              refine ⟨_, rfl, y2, b, rfl, Dp.same ((m1.trans m2).trans m3) _ _ h2, e2, fun T2 H4 m4 t2 => ?_⟩
              refine ⟨_, rfl, three, fun T3 hT3 => ?_⟩
              have m5 := same_upd (o := .tup [.ref T1, .ref T2, .bl c]) hT3
              refine q1 (by rw [e1, e2]; rfl) T3 _ ((((m1.trans m2).trans m3).trans m4).trans m5) ?_
              refine .tup (SqT.of upd_same) (.cons (.tup (Same.tup (m4.trans m5) (SqT.of upd_same)) (DpAll.same ((m3.trans m4).trans m5) _ _ (DpAll.same wos_sub _ _ hd2))) (.cons (Dp.same m5 _ _ (ratP_dp t2)) (.cons (.bl c) .nil)))
end
end Lw

set_option maxRecDepth 100000
set_option linter.unusedVariables false
namespace Lw
open PySem PySem.Spec PyProof.Rows L2 VG
section
variable {P : Program} {w : World} {K : PySem.W.Frag} {mg : Str → Option Value} {base : Heap}
def noLrow (d : PyData) : Prop := noL (rowD d) = true
theorem ratPs_noL (ds : List PyData) : noLs (ds.map ratP) = true := noLs_of fun d h => by
  obtain ⟨e, _, rfl⟩ := List.mem_map.mp h
  rfl
theorem rowD_noL {n : Int} {d : PyData} (h : rowOk n d = true) : noL (rowD d) = true := by
  match d, h with
  | .tuple [f, b, s], h =>
    have h : (factsOf n f && (okR b && isBoolD s)) = true := h
    obtain ⟨_, h⟩ := Bool.and_eq_true_iff.mp h
    obtain ⟨_, h⟩ := Bool.and_eq_true_iff.mp h
    show (noLs ((itemsD f).map ratP) && (noL (ratP b) && (noL s && true))) = true
    rw [ratPs_noL]
    cases s <;> first | rfl | cases h
/-- the rows of some data, every one of them a row -/
def spRowsOf (K : PySem.W.Frag) : Sp := fun vs H Q _ => ∃ (x : V) (d : PyData) (n : Int), vs = [x, .int n] ∧ Dp K H x d ∧ isSeq d = true ∧ (itemsD d).length ≤ 1000 ∧ (∀ e ∈ itemsD d, rowOk n e = true ∧ wideRow e) ∧
  ∀ (L : Addr) (H' : Hp), Same H H' → H L = none → Acc K [] L H' ((itemsD d).map rowD) → Q (.ref L) H'
theorem scRowsOf : FnScope ["values", "size", "rows", "at", "value", "row"] ["values", "size"] (defScope s__rows_of) := ⟨rfl, rfl, rfl, by decide +kernel, rfl, by decide +kernel, by decide +kernel⟩
theorem ok_rowsOf {f fR : Addr} {fd fdR : FuncData} (F : Fun K "_rows_of" "_rows_of" s__rows_of f fd) (en : mg "enumerate" = none) (GR : FnOk P w K mg base CX0 5 fR fdR ["value", "size"] (spRowOf K)) (mR : mg "_row_of" = some (.ref fR)) (kR : PySem.W.keepIn K (.ref fR) = true) (bR : Binds K fdR ["value", "size"] []) :
    FnOk P w K mg base CX0 6 f fd ["values", "size"] (spRowsOf K) := by
  refine F.ok scRowsOf (fun vs H Q E h => ?_) (fun cdv A outer s H vs Q E hr h => ?_)
  · obtain ⟨x, d, n, rfl, _⟩ := h
    rfl
  · obtain ⟨x, d, n, rfl, hx, hs, hz, hrow, q⟩ := h
    have nd := scRowsOf.nd
    refine ⟨_, pss_cons (ps_set (i := 2) nd rfl (Or.inl rfl) (pe_lst pa_nil))
      (pss_cons (ps_for PassesOwn.never rfl (pi_enumG (by rfl) en (pa_cons (pv 0) pa_nil)) (pg_tup (by rfl) (pgs_cons (pg_name (i := 3) nd rfl (Or.inl rfl)) (pgs_cons (pg_name (i := 4) nd rfl (Or.inl rfl)) pgs_nil)))
        (pss_cons (ps_set (i := 5) nd rfl (Or.inl rfl) (pe_call GR hr (by rfl) mR kR bR .nil pass0 (pa_cons (pv 4) (pa_cons (pv 1) pa_nil))))
        (pss_cons (ps_if (pt_cmpR op_isN (pv 5) pe_non (nomark _)) pss_false pss_nil)
        (pss_one (ps_expr (pe_bm PySem.F.plainAttrs_list PySem.F.slot_list_append PySem.F.type_list_append mt_append (pv 2) (pa_cons (pv 5) pa_nil)))))))
      (pss_one (ps_ret (pv 2)))), ?_⟩
    obtain ⟨k, a, xs, rfl, hk, hd⟩ := dp_seq hx (seq_form hs)
    have hlen := DpAll.len hd
    refine ⟨by decide, fun L hL => ?_⟩
    have mL := same_upd (o := .lst []) hL
    refine ⟨_, rfl, a, k, xs, rfl, Kd.same mL hk, for_enumG (K := K) (k := k) (a := a) (xs := xs) (fun i σ G => ∃ (o3 o4 o5 : Option V), σ = [some (.ref a), some (.int n), some (.ref L), o3, o4, o5] ∧ Same H G ∧ Acc K [] L G (((itemsD d).take i).map rowD))
      ⟨_, _, _, rfl, mL, Acc.start⟩ (fun i σ G ⟨_, _, _, _, sm, _⟩ => Kd.same sm hk) ?_ ?_⟩
    · rintro i y T σ G hy ⟨o3, o4, o5, rfl, sm, c⟩ hT
      obtain ⟨u, hu, hyu⟩ := DpAll.at' hd hy
      have lt : i < (itemsD d).length := (List.getElem?_eq_some_iff.mp hu).1
      have et : (itemsD d).take (i + 1) = (itemsD d).take i ++ [u] := by
        rw [List.take_add_one, hu]
        rfl
      obtain ⟨r1, r2⟩ := hrow u (List.mem_of_getElem? hu)
      have mT := same_upd (o := .tup [.int (i : Nat), y]) hT
      refine ⟨_, _, rfl, SqT.of upd_same, rfl, _, _, rfl, _, _, rfl, rfl, ?_⟩
      refine ⟨_, rfl, _, rfl, y, u, n, rfl, Dp.same (sm.trans mT) _ _ hyu, r2, fun _ T2 G2 m2 t2 => ?_, fun z => by rw [r1] at z; cases z⟩
      obtain ⟨acc, h1, h2, h3⟩ := c.put (d := rowD u) (mT.trans m2) (fun _ h => by cases h) (rowD_noL r1) t2
      refine ⟨_, rfl, rfl, _, rfl, ite2 (fun h => absurd (of_decide_eq_true h) (fun z => by cases z)) (fun _ => ?_)⟩
      refine ⟨_, rfl, .inl ⟨rfl, _, SqL.of h1⟩, _, rfl, L, acc, _, rfl, rfl, h1, ?_, _, _, _, rfl, fun b' o h => ?_, ?_⟩
      · rw [h2, List.length_map, List.length_take]
        exact Nat.lt_of_le_of_lt (Nat.min_le_right _ _) (Nat.lt_of_le_of_lt hz (by decide))
      · rw [upd_ne (ne_of_none h hL)]
        exact m2 _ _ (mT _ _ (sm _ _ h))
      · rw [et, List.map_append]
        exact h3
    · rintro σ G ⟨o3, o4, o5, rfl, sm, c⟩
      rw [hlen, List.take_length] at c
      exact ⟨_, rfl, q L G sm hL c⟩
end
end Lw

set_option maxRecDepth 100000
set_option linter.unusedVariables false
namespace Lw
open PySem PySem.Spec PyProof.Rows L2 VG
abbrev pInit : Stmt := inClass s_Problem 1
theorem kws : ¬ (("_size" : Str) = "_rows") := by decide +kernel
def flds (x y : V) : List (Str × V) := putF "_rows" y (putF "_size" x [])
theorem flds_s (x y : V) : (flds x y).lookup ("_size" : Str) = some x := by
  unfold flds
  rw [lookup_putF, if_neg kws, lookup_putF, if_pos rfl]
theorem flds_r (x y : V) : (flds x y).lookup ("_rows" : Str) = some y := by
  unfold flds
  rw [lookup_putF, if_pos rfl]
theorem flds_no (x y : V) {m : Str} (h1 : ¬ m = "_rows") (h2 : ¬ m = "_size") : (flds x y).lookup m = none := by
  unfold flds
  rw [lookup_putF, if_neg h1, lookup_putF, if_neg h2]
  all_goals rfl
structure TxP (K : PySem.W.Frag) (C : Addr) : Prop where
  cl : Cls K C
  nS : NoAttr K C "_size"
  nR : NoAttr K C "_rows"
  most : ∃ u, Con K C "MOST" (.int 60) u
/-- a problem at p, of a size and rows -/
def ProbAt (K : PySem.W.Frag) (C : Addr) (H : Hp) (p : Addr) (n : Int) (rs : List PyData) : Prop := ∃ dx L, H p = some (.ins C dx (flds (.int n) (.ref L))) ∧ Dp K H (.ref L) (.list rs)
theorem ProbAt.same {K : PySem.W.Frag} {C p : Addr} {H H' : Hp} {n : Int} {rs : List PyData} (s : Same H H') (h : ProbAt K C H p n rs) : ProbAt K C H' p n rs := by
  obtain ⟨dx, L, h1, h2⟩ := h
  exact ⟨dx, L, s _ _ h1, Dp.same s _ _ h2⟩
theorem wos_upd_out {S : List Addr} {G : Hp} {T : Addr} {o : HO} (h : T ∉ S) : wos S (upd G T o) = upd (wos S G) T o := by
  funext b
  by_cases z : b = T
  · rw [z, wos_out h, upd_same, upd_same]
  · rw [upd_ne z]
    by_cases y : b ∈ S
    · rw [wos_in y, wos_in y]
    · rw [wos_out y, wos_out y, upd_ne z]
theorem dpAll_offI {K : PySem.W.Frag} {H : Hp} {p C dx : Addr} {fs : List (Str × V)} {o : HO} (hp : H p = some (.ins C dx fs)) : ∀ {xs : List V} {ds : List PyData}, DpAll K H xs ds → DpAll K (upd H p o) xs ds
  | _, _, .nil => .nil
  | _, _, .cons a t => .cons (Dp.offI hp a) (dpAll_offI hp t)
section
variable {P : Program} {w : World} {K : PySem.W.Frag} {mg : Str → Option Value} {base : Heap}
def numB (d : PyData) (l m : Int) : Bool := match d with
  | .int i => decide (l ≤ i) && decide (i ≤ m)
  | _ => false
def spNumber (K : PySem.W.Frag) : Sp := fun vs H Q _ => ∃ (x : V) (d : PyData) (l m : Int), vs = [x, .int l, .int m] ∧ Dp K H x d ∧ Q (.bl (numB d l m)) H
theorem scNumber : FnScope ["value", "least", "most"] ["value", "least", "most"] (defScope s_is_number) := ⟨rfl, rfl, rfl, by decide +kernel, rfl, by decide +kernel, by decide +kernel⟩
theorem ok_number {f fW : Addr} {fd fdW : FuncData} (F : Fun K "is_number" "is_number" s_is_number f fd) (FW : Fun K "_is_whole" "_is_whole" s__is_whole fW fdW) (T : NmW mg) (mW : mg "_is_whole" = some (.ref fW)) (bW : Binds K fdW ["value"] []) :
    FnOk P w K mg base CX0 2 f fd ["value", "least", "most"] (spNumber K) := by
  refine F.ok scNumber (fun vs H Q E h => ?_) (fun cdv A outer s H vs Q E hr h => ?_)
  · obtain ⟨x, d, l, m, rfl, _⟩ := h
    rfl
  · obtain ⟨x, d, l, m, rfl, hx, q⟩ := h
    refine ⟨_, pss_one (ps_ret (pe_and (pe_call (ok_whole FW T) hr (by rfl) mW FW.kp bW .nil pass0 (pa_cons (pv 0) pa_nil)) (pe_one (pe_chain op_le op_le (pv 1) (pv 0) (pv 2))))), ?_⟩
    refine ⟨_, rfl, x, d, rfl, hx, _, rfl, ?_⟩
    cases hx with
    | int i =>
      refine iteT ⟨_, rfl, _, rfl, _, _, rfl, rfl, _, rfl, ?_⟩
      have q : Q (.bl (decide (l ≤ i) && decide (i ≤ m))) H := q
      cases e : decide (l ≤ i) with
      | true =>
        rw [e] at q
        exact iteT ⟨_, rfl, _, _, rfl, rfl, q⟩
      | false =>
        rw [e] at q
        exact iteF q
    | non => exact iteF q
    | bl b => exact iteF q
    | str z => exact iteF q
    | lst hs hd => exact iteF q
    | tup hs hd => exact iteF q
def spInitP (K : PySem.W.Frag) (C : Addr) : Sp := fun vs H Q _ => ∃ (p dx : Addr) (n : Int) (x : V) (d : PyData), vs = [.ref p, .int n, x] ∧ H p = some (.ins C dx []) ∧ 0 ≤ n ∧ n ≤ 60 ∧ Dp K H x d ∧ isSeq d = true ∧ (itemsD d).length ≤ 1000 ∧ (∀ e ∈ itemsD d, rowOk n e = true ∧ wideRow e) ∧
  ∀ (L : Addr) (ys : List V) (H' : Hp), H' p = some (.ins C dx (flds (.int n) (.ref L))) → H L = none → H' L = some (.lst ys) → DpAll K (wos [L] H') ys ((itemsD d).map rowD) → Exs [p] H H' → Q .non H'
theorem scInitP : FnScope ["self", "size", "rows"] ["self", "size", "rows"] (defScope pInit) := ⟨rfl, rfl, rfl, by decide +kernel, rfl, by decide +kernel, by decide +kernel⟩
theorem ok_initP {f fN fR C : Addr} {fd fdN fdR : FuncData} {e : V} (F : FunD K "__init__" "Problem.__init__" (defArgs pInit) (defBody pInit) (defScope pInit) [e] [] f fd) (T : TxP K C) (GN : FnOk P w K mg base CX0 2 fN fdN ["value", "least", "most"] (spNumber K)) (mN : mg "is_number" = some (.ref fN)) (kN : PySem.W.keepIn K (.ref fN) = true) (bN : Binds K fdN ["value", "least", "most"] [])
    (GR : FnOk P w K mg base CX0 6 fR fdR ["values", "size"] (spRowsOf K)) (mR : mg "_rows_of" = some (.ref fR)) (kR : PySem.W.keepIn K (.ref fR) = true) (bR : Binds K fdR ["values", "size"] []) :
    FnOk P w K mg base CX0 7 f fd ["self", "size", "rows"] (spInitP K C) := by
  refine F.ok scInitP (fun vs H Q E h => ?_) (fun cdv A outer s H vs Q E hr h => ?_)
  · obtain ⟨p, dx, n, x, d, rfl, _⟩ := h
    rfl
  · obtain ⟨p, dx, n, x, d, rfl, hp, n0, n6, hx, hs, hz, hrow, q⟩ := h
    have hr2 : Room 2 _ := hr.mono (by decide)
    obtain ⟨u, hu⟩ := T.most
    refine ⟨_, pss_cons (ps_if (pt_not (pt_val (pe_call GN hr2 (by rfl) mN kN bN .nil pass0 (pa_cons (pv 1) (pa_cons pe_int (pa_cons (pe_con (pv 0) rfl) pa_nil)))))) pss_false pss_nil)
      (pss_cons (ps_fld (pv 0) (pv 1) rfl) (pss_one (ps_fld (pv 0) (pe_call GR hr (by rfl) mR kR bR .nil pass0 (pa_cons (pv 2) (pa_cons (pv 1) pa_nil))) rfl))), ?_⟩
    refine ⟨_, rfl, _, rfl, p, C, dx, [], _, u, rfl, hp, T.cl, hu, rfl, _, _, _, _, rfl, .int n, _, rfl, ?_⟩
    have e : numB (.int n) 0 60 = true := by
      show (decide (0 ≤ n) && decide (n ≤ 60)) = true
      rw [decide_eq_true n0, decide_eq_true n6]
      rfl
    rw [e]
    refine iteF ⟨_, rfl, _, rfl, p, C, dx, [], rfl, hp, T.cl, T.nS, by show 0 < 1000; decide, ?_⟩
    have hx1 : Dp K (upd H p (.ins C dx (putF "_size" (.int n) []))) x d := Dp.offI hp hx
    refine ⟨_, rfl, _, rfl, x, d, n, rfl, hx1, hs, hz, hrow, fun L H2 m2 hL c => ⟨_, rfl, p, C, dx, _, rfl, m2 _ _ upd_same, T.cl, T.nR, by show 1 < 1000; decide, ?_⟩⟩
    have nL : L ≠ p := fun z => by
      rw [z, upd_same] at hL
      cases hL
    obtain ⟨acc, h1, h2⟩ := c.ex
    refine q L acc _ upd_same (by rw [upd_ne nL] at hL; exact hL) (by rw [upd_ne nL]; exact h1) ?_ fun b o z => ?_
    · have np : p ∉ [L] := fun z => nL (List.mem_singleton.mp z).symm
      rw [wos_upd_out np]
      have hp2 : wos [L] H2 p = some (.ins C dx (putF "_size" (.int n) [])) := by
        rw [wos_out np]
        exact m2 _ _ upd_same
      exact dpAll_offI hp2 h2
    · by_cases y : b = p
      · rw [y, wos_in List.mem_cons_self] at z
        cases z
      · have nb : b ∉ [p] := fun x => y (List.mem_singleton.mp x)
        rw [wos_out nb] at z ⊢
        rw [upd_ne y]
        refine m2 _ _ ?_
        rw [upd_ne y]
        exact z
end
end Lw

set_option maxRecDepth 100000
/-! New objects in heaps without some objects; lists of one's own. -/
namespace VG
open PySem PySem.Spec PyProof.Rows L2
theorem Exs.put {S : List Addr} {H G : Hp} {D : Addr} {o : HO} (e : Exs S H G) (h : H D = none) : Exs S H (L2.upd G D o) := fun b u z => by
  by_cases y : b ∈ S
  · rw [wos_in y] at z
    cases z
  · rw [wos_out y] at z ⊢
    have n : b ≠ D := fun x => by
      rw [x, h] at z
      cases z
    rw [upd_ne n]
    exact e.on y z
theorem fresh_out {S : List Addr} {G : Hp} {T : Addr} (hS : ∀ b ∈ S, ∃ o, G b = some o) (hT : G T = none) : T ∉ S := fun z => by
  obtain ⟨o, ho⟩ := hS T z
  rw [hT] at ho
  cases ho
theorem Dp.tupN {K : PySem.W.Frag} {S : List Addr} {G : Hp} {T : Addr} {xs : List V} {ds : List PyData} (hT : G T = none) (hS : T ∉ S) (h : DpAll K (wos S G) xs ds) : Dp K (wos S (upd G T (.tup xs))) (.ref T) (.tuple ds) :=
  .tup (SqT.of (by rw [wos_out hS, upd_same])) (DpAll.same (Exs.of (same_upd hT)) _ _ h)
/-- a list of one's own, not in S -/
def Lp (K : PySem.W.Frag) (S : List Addr) (H : Hp) (v : V) (ds : List PyData) : Prop := ∃ a xs, v = .ref a ∧ a ∉ S ∧ H a = some (.lst xs) ∧ DpAll K (wos S H) xs ds
theorem Lp.dp {K : PySem.W.Frag} {S : List Addr} {H : Hp} {v : V} {ds : List PyData} (h : Lp K S H v ds) : Dp K (wos S H) v (.list ds) := by
  obtain ⟨a, xs, rfl, n, e, d⟩ := h
  exact .lst (SqL.of (by rw [wos_out n]; exact e)) d
theorem Lp.on {K : PySem.W.Frag} {S : List Addr} {H H' : Hp} {v : V} {ds : List PyData} (h : Lp K S H v ds) (e : Exs S H H') : Lp K S H' v ds := by
  obtain ⟨a, xs, rfl, n, z, d⟩ := h
  exact ⟨a, xs, rfl, n, e.on n z, DpAll.same e _ _ d⟩
theorem Lp.new {K : PySem.W.Frag} {S : List Addr} {H : Hp} {L : Addr} {xs : List V} {ds : List PyData} (hL : H L = none) (hS : L ∉ S) (d : DpAll K (wos S H) xs ds) : Lp K S (upd H L (.lst xs)) (.ref L) ds :=
  ⟨L, xs, rfl, hS, upd_same, DpAll.same (Exs.of (same_upd hL)) _ _ d⟩
theorem Acc.lp {K : PySem.W.Frag} {S : List Addr} {D : Addr} {H : Hp} {ds : List PyData} (c : Acc K S D H ds) (h : D ∉ S) : Lp K S H (.ref D) ds := by
  obtain ⟨acc, h1, h2⟩ := c.ex
  exact ⟨D, acc, rfl, h, h1, DpAll.same (wos_less fun b z => List.mem_cons_of_mem _ z) _ _ h2⟩
theorem Acc.len {K : PySem.W.Frag} {S : List Addr} {D : Addr} {H : Hp} {ds : List PyData} (c : Acc K S D H ds) : ∃ acc, H D = some (.lst acc) ∧ acc.length = ds.length := by
  obtain ⟨acc, h1, h2⟩ := c.ex
  exact ⟨acc, h1, DpAll.len h2⟩
theorem dpAll_cons {K : PySem.W.Frag} {H : Hp} {xs : List V} {d : PyData} {ds : List PyData} (h : DpAll K H xs (d :: ds)) : ∃ x r, xs = x :: r ∧ Dp K H x d ∧ DpAll K H r ds := by
  cases h with
  | cons a t => exact ⟨_, _, rfl, a, t⟩
theorem at0 {α : Type} (x : α) (r : List α) : atI (x :: r) 0 = some x := atI_nat (xs := x :: r) (j := 0) rfl
/-- one of the data -/
theorem dpAll_get {K : PySem.W.Frag} {H : Hp} : ∀ {xs : List V} {ds : List PyData} {i : Nat} {d : PyData}, DpAll K H xs ds → ds[i]? = some d → ∃ x, xs[i]? = some x ∧ Dp K H x d
  | _, _, 0, _, .cons h _, e => by
    cases e
    exact ⟨_, rfl, h⟩
  | _, _, i + 1, _, .cons _ t, e => dpAll_get (i := i) t e
/-- a list that grows, of data without lists, while all but S' stays -/
theorem Acc.putX {K : PySem.W.Frag} {S S' : List Addr} {D : Addr} {H G : Hp} {ds : List PyData} {d : PyData} {y : V} (c : Acc K S D H ds) (e : Exs S' H G) (s : ∀ b ∈ S', b ∈ S) (hD : D ∉ S') (hS : ∀ b ∈ S, ∃ ys, G b = some (.lst ys)) (n : noL d = true) (hy : Dp K G y d) :
    ∃ acc, G D = some (.lst acc) ∧ acc.length = ds.length ∧ Acc K S D (upd G D (.lst (acc ++ [y]))) (ds ++ [d]) := by
  have c2 := c.on (Exs.mono (fun b h => List.mem_cons_of_mem _ (s b h)) e) fun o h => e.on hD h
  obtain ⟨acc, h1, _⟩ := c2.ex
  exact c2.more (Dp.wosT (fun b hb => by
    rcases List.mem_cons.mp hb with rfl | hb
    · exact ⟨_, h1⟩
    · exact hS b hb) d y n hy)
/-- and with data that are there without D and S -/
theorem Acc.moreX {K : PySem.W.Frag} {S S' : List Addr} {D : Addr} {H G : Hp} {ds : List PyData} {d : PyData} {y : V} (c : Acc K S D H ds) (e : Exs S' H G) (s : ∀ b ∈ S', b ∈ S) (hD : D ∉ S') (hy : Dp K (wos (D :: S) G) y d) :
    ∃ acc, G D = some (.lst acc) ∧ acc.length = ds.length ∧ Acc K S D (upd G D (.lst (acc ++ [y]))) (ds ++ [d]) :=
  (c.on (Exs.mono (fun b h => List.mem_cons_of_mem _ (s b h)) e) fun o h => e.on hD h).more hy
/-! ### how deep data are (for == of data) -/
def Lay (k : Nat) (d : PyData) : Prop := d.canLay0 = true ∧ d.depth ≤ k
theorem lay_all {k : Nat} : ∀ {ds : List PyData}, (∀ d ∈ ds, Lay k d) → PyData.canLayAll0 ds = true ∧ PyData.depthAll ds ≤ k
  | [], _ => ⟨rfl, Nat.zero_le _⟩
  | d :: ds, h => by
    obtain ⟨a, b⟩ := lay_all (ds := ds) fun e he => h e (List.mem_cons_of_mem _ he)
    obtain ⟨c, e⟩ := h d List.mem_cons_self
    refine ⟨by simp only [PyData.canLayAll0, a, c, Bool.and_self], ?_⟩
    simp only [PyData.depthAll]
    exact Nat.max_le.mpr ⟨e, b⟩
theorem lay_list {k : Nat} {ds : List PyData} (h : ∀ d ∈ ds, Lay k d) : Lay (k + 1) (.list ds) := by
  obtain ⟨a, b⟩ := lay_all h
  refine ⟨by simp only [PyData.canLay0, a], ?_⟩
  simp only [PyData.depth]
  omega
theorem lay_tup {k : Nat} {ds : List PyData} (h : ∀ d ∈ ds, Lay k d) : Lay (k + 1) (.tuple ds) := by
  obtain ⟨a, b⟩ := lay_all h
  refine ⟨by simp only [PyData.canLay0, a], ?_⟩
  simp only [PyData.depth]
  omega
theorem lay_int (i : Int) : Lay 0 (.int i) := ⟨by simp only [PyData.canLay0], by simp [PyData.depth]⟩
theorem lay_bool (i : Bool) : Lay 0 (.bool i) := ⟨by simp only [PyData.canLay0], by simp [PyData.depth]⟩
theorem Lay.up {k m : Nat} {d : PyData} (h : Lay k d) (e : k ≤ m) : Lay m d := ⟨h.1, Nat.le_trans h.2 e⟩
theorem Lay.shaped {k : Nat} {d : PyData} (h : Lay k d) (e : k ≤ 64 := by decide) : SeqAt.shaped d = true := by
  show (PyData.canLay0 d && decide (PyData.depth d ≤ 64)) = true
  rw [h.1, decide_eq_true (Nat.le_trans h.2 e)]
  rfl
theorem eqv_nil : ∀ ds : List PyData, PyData.eqv (.list ds) (.list []) = ds.isEmpty
  | [] => by simp [PyData.eqv, PyData.eqvAll]
  | _ :: _ => by simp [PyData.eqv, PyData.eqvAll]
end VG

set_option maxRecDepth 100000
/-! len and bool of an instance by own methods; data small enough to be shown, told by lists. -/
namespace VG
open PySem PySem.Spec PyProof.Rows L2
section
variable {X : Cx} {CX : CXT} {C g : Addr} {n : Nat} {sp : Sp} {E : XK}
/-- len(x), x an instance of C, whose __len__ stands at g -/
def rLenO (C : Addr) (sp : Sp) (E : XK) : List V → Hp → VK → Prop := fun xs H Q => ∃ a dx fs, xs = [.ref a] ∧ H a = some (.ins C dx fs) ∧ sp xs H (fun v H' => (∃ m : Nat, v = .int m ∧ m < 2 ^ 62) ∧ Q v H') E
theorem call_lenO (hs : PySem.W.findIn X.K (.ref C) "__len__" = some (some (.ref g))) (hf : PySem.W.isFn X.K (.ref g) = true) (F : FnR X.prog X.w X.K X.mg X.base CX n g sp) (hr : Room (n + 1) X.A) (hx : Passes CX X E) : CallR X (.builtin "len") (rLenO C sp E) := by
  intro pins s σ H xs us Q I r h
  obtain ⟨a, dx, fs, rfl, ha, q⟩ := h
  obtain ⟨u, rfl, ru⟩ := vals1 r
  cases (show u = Value.ref a from ru)
  obtain ⟨od, J⟩ := ins_inst I ha
  obtain ⟨m, hF⟩ := I.fr
  have hr1 : Room n X.A.in1 := Room.in1 hr
  refine PySem.W.len_K hF I.ok.mod.kin J hs hf (wpAny_mono (wpAny_call (SlX.run_at (us := [.ref a]) (ws := [.ref a]) F hr1 I.env0.in1 hx I (.cons rfl .nil) q)) (fun v s' z => ?_) fun _ _ x => x)
  obtain ⟨z', H', I', rz, ⟨y, rfl, hy⟩, qz⟩ := z
  obtain ⟨t, e⟩ := (show ∃ t, v = Value.int y t from rz)
  cases e
  exact ⟨⟨by omega, by omega⟩, .int y, H', I'.tok _, ⟨_, rfl⟩, qz⟩
/-- bool(x) of an object: its truth -/
theorem meets_boolO {P : Program} {w : World} {a : Addr} : PySem.MeetsIn P w (Builtin.«bool.__new__» ⟨[.type "bool", .ref a], []⟩) (fun A R s => wpAny (model P w) A.in1 (truthy (.ref a)) (fun b s' => R (.ok (.ret (.bool b))) s') (fun e s' => R (.error e) s') s) := by
  refine PySem.MeetsIn.of_wp fun A R s h => ?_
  obtain ⟨hp, g, d, tk, os⟩ := s
  have f1 := F.conv_sub_bool
  have q : ∀ {Q : Bool → Shared → Prop}, (∀ b s', R (.ok (.ret (.bool b))) s' → Q b s') → wpAny (model P w) A.in1 (truthy (.ref a)) Q (fun e s' => R (.error e) s') ⟨hp, g, d, tk, os⟩ := fun k => wpAny_mono h k fun _ _ x => x
  repeat (any_goals (first | assumption | (with_reducible apply q; intro b s' z) | wp_step))
  all_goals first | exact ⟨_, rfl, z⟩ | skip
/-- bool(x), x an instance of C, whose __bool__ stands at g -/
def rBoolO (C : Addr) (sp : Sp) (E : XK) : List V → Hp → VK → Prop := fun xs H Q => ∃ a dx fs, xs = [.ref a] ∧ H a = some (.ins C dx fs) ∧ sp xs H (fun v H' => (∃ b, v = .bl b) ∧ Q v H') E
theorem call_boolO (hs : PySem.W.findIn X.K (.ref C) "__bool__" = some (some (.ref g))) (hf : PySem.W.isFn X.K (.ref g) = true) (G : FnR X.prog X.w X.K X.mg X.base CX n g sp) (hr : Room (n + 2) X.A) (hx : Passes CX X E) : CallR X (.type "bool") (rBoolO C sp E) := by
  intro pins s σ H xs us Q I r h
  obtain ⟨a, dx, fs, rfl, ha, q⟩ := h
  obtain ⟨u, rfl, ru⟩ := vals1 r
  cases (show u = Value.ref a from ru)
  obtain ⟨od, J⟩ := ins_inst I ha
  obtain ⟨m, hF⟩ := I.fr
  have hr2 : Room n X.A.in1.in1 := Room.in1 (Room.in1 hr)
  refine callType_newIn F.called_bool F.newNe_bool (F.typeCall_bool_1 _) (F.newCall_bool_1 _) (fun obj => F.args_object_init_2 obj _) F.entry_bool_new meets_boolO ?_
  refine PySem.W.truthy_K hF I.ok.mod.kin J hs hf (wpAny_mono (wpAny_call (SlX.run_at (us := [.ref a]) (ws := [.ref a]) G hr2 I.env0.in1.in1 hx I (.cons rfl .nil) q)) (fun v s' z => ?_) fun _ _ x => x)
  obtain ⟨z', H', I', rz, ⟨y, rfl⟩, qz⟩ := z
  cases (show v = Value.bool y from rz)
  exact ⟨rfl, .bl y, H', I', rfl, qz⟩
end
/-- tuple(x), its reading named (for comprehensions) -/
def rTupOf (K : PySem.W.Frag) : List V → Hp → VK → Prop := fun xs H Q => ∃ p ys, xs = [V.ref p] ∧ ((SqL K H p ys ∧ ∀ l, H l = none → Q (.ref l) (upd H l (.tup ys))) ∨ (SqT K H p ys ∧ Q (.ref p) H))
theorem call_tupleK {X : Cx} : CallR X (.type "tuple") (rTupOf X.K) := call_tuple_of
/-! ### small data, told by lists -/
structure Smk (k m : Nat) (d : PyData) : Prop where
  sm : VG.sm d = true
  dp : d.depth ≤ k
  bk : d.bulk ≤ m
theorem smk_int {i : Int} (h : i.natAbs < 10 ^ 90) : Smk 0 0 (.int i) := ⟨by simp only [VG.sm]; exact decide_eq_true h, by simp [PyData.depth], by simp [PyData.bulk]⟩
theorem smk_bool (b : Bool) : Smk 0 0 (.bool b) := ⟨rfl, by simp [PyData.depth], by simp [PyData.bulk]⟩
theorem smk_str {z : Str} {m : Nat} (h : PyData.strOk z = true) (hm : z.cps.size ≤ m) : Smk 0 m (.str z) := ⟨by simp only [VG.sm]; exact h, by simp [PyData.depth], by simp only [PyData.bulk]; exact hm⟩
theorem Smk.up {k m k' m' : Nat} {d : PyData} (h : Smk k m d) (e : k ≤ k') (f : m ≤ m') : Smk k' m' d := ⟨h.sm, Nat.le_trans h.dp e, Nat.le_trans h.bk f⟩
theorem smk_all {k m : Nat} : ∀ {ds : List PyData}, (∀ d ∈ ds, Smk k m d) → smAll ds = true ∧ PyData.depthAll ds ≤ k ∧ PyData.bulkAll ds ≤ ds.length * (m + 1)
  | [], _ => ⟨rfl, Nat.zero_le _, Nat.zero_le _⟩
  | d :: ds, h => by
    obtain ⟨a, b, c⟩ := smk_all (ds := ds) fun e he => h e (List.mem_cons_of_mem _ he)
    have z := h d List.mem_cons_self
    refine ⟨?_, ?_, ?_⟩
    · simp only [VG.smAll, z.sm, a, Bool.and_self]
    · simp only [PyData.depthAll]
      exact Nat.max_le.mpr ⟨z.dp, b⟩
    · simp only [PyData.bulkAll, List.length_cons, Nat.succ_mul]
      have := z.bk
      omega
theorem smk_list {k m n : Nat} {ds : List PyData} (h : ∀ d ∈ ds, Smk k m d) (hn : ds.length ≤ n) : Smk (k + 1) (n * (m + 1)) (.list ds) := by
  obtain ⟨a, b, c⟩ := smk_all h
  refine ⟨by simp only [VG.sm]; exact a, by simp only [PyData.depth]; omega, ?_⟩
  simp only [PyData.bulk]
  exact Nat.le_trans c (Nat.mul_le_mul_right _ hn)
theorem smk_tup {k m n : Nat} {ds : List PyData} (h : ∀ d ∈ ds, Smk k m d) (hn : ds.length ≤ n) : Smk (k + 1) (n * (m + 1)) (.tuple ds) := by
  obtain ⟨a, b, c⟩ := smk_all h
  refine ⟨by simp only [VG.sm]; exact a, by simp only [PyData.depth]; omega, ?_⟩
  simp only [PyData.bulk]
  exact Nat.le_trans c (Nat.mul_le_mul_right _ hn)
theorem Smk.Sm {k m : Nat} {d : PyData} (h : Smk k m d) (e : k ≤ 40 := by decide) (f : m ≤ 100000 := by decide) : VG.Sm d := ⟨h.sm, Nat.le_trans h.dp e, Nat.le_trans h.bk f⟩
/-! ### == of data -/
mutual
def noDict : PyData → Bool
  | .dict _ => false
  | .list ds => noDicts ds
  | .tuple ds => noDicts ds
  | _ => true
def noDicts : List PyData → Bool
  | [] => true
  | d :: ds => noDict d && noDicts ds
end
theorem noDicts_of {ds : List PyData} (h : ∀ d ∈ ds, noDict d = true) : noDicts ds = true := by
  induction ds with
  | nil => rfl
  | cons d ds ih =>
    show (noDict d && noDicts ds) = true
    rw [h d List.mem_cons_self, ih fun e he => h e (List.mem_cons_of_mem _ he)]
    rfl
mutual
theorem eqv_refl : ∀ d : PyData, noDict d = true → PyData.eqv d d = true
  | .none, _ => by simp only [PyData.eqv]
  | .bool _, _ => by simp only [PyData.eqv, beq_self_eq_true]
  | .int _, _ => by simp only [PyData.eqv, beq_self_eq_true]
  | .str _, _ => by simp only [PyData.eqv, beq_self_eq_true]
  | .list xs, h => by simp only [PyData.eqv]; exact eqv_reflAll xs h
  | .tuple xs, h => by simp only [PyData.eqv]; exact eqv_reflAll xs h
  | .dict _, h => by cases h
theorem eqv_reflAll : ∀ ds : List PyData, noDicts ds = true → PyData.eqvAll ds ds = true
  | [], _ => by simp only [PyData.eqvAll]
  | d :: ds, h => by
    obtain ⟨a, b⟩ := Bool.and_eq_true_iff.mp (show (noDict d && noDicts ds) = true from h)
    simp only [PyData.eqvAll, eqv_refl d a, eqv_reflAll ds b, Bool.and_self]
end
theorem eqv_len : ∀ {xs ys : List PyData}, xs.length ≠ ys.length → PyData.eqvAll xs ys = false
  | [], [], h => absurd rfl h
  | [], _ :: _, _ => by simp only [PyData.eqvAll]
  | _ :: _, [], _ => by simp only [PyData.eqvAll]
  | x :: xs, y :: ys, h => by
    have z := eqv_len (xs := xs) (ys := ys) fun e => h (by rw [List.length_cons, List.length_cons, e])
    simp only [PyData.eqvAll, z, Bool.and_false]
theorem eqv_lens {xs ys : List PyData} (h : xs.length ≠ ys.length) : PyData.eqv (.list xs) (.list ys) = false := by
  simp only [PyData.eqv]
  exact eqv_len h
end VG

set_option maxRecDepth 100000
set_option linter.unusedVariables false
set_option maxHeartbeats 4000000
namespace Lw
open PySem PySem.Spec PyProof.Rows L2 VG
theorem Src.lst {H : Hp} {p q : Addr} {cells : List Int} (h : Src H p q cells) : ∃ ys, H p = some (.lst ys) := let ⟨_, _, _, _, e, _⟩ := h.ex; ⟨_, e⟩
theorem Src.lsts {H : Hp} {p q : Addr} {cells : List Int} (h : Src H p q cells) : ∀ b ∈ [p], ∃ ys, H b = some (.lst ys) := fun b hb => by
  rw [List.mem_singleton.mp hb]
  exact h.lst
theorem Src.out {H : Hp} {p q D : Addr} {cells : List Int} (h : Src H p q cells) (hD : H D = none) : D ≠ p ∧ D ≠ q := by
  refine ⟨fun z => ?_, fun z => ?_⟩
  · obtain ⟨ys, hy⟩ := h.lst
    rw [← z, hD] at hy
    cases hy
  · have hy := h.cs
    rw [← z, hD] at hy
    cases hy
theorem Src.put {H : Hp} {p q D : Addr} {cells : List Int} {o : HO} (h : Src H p q cells) (n : D ≠ p ∧ D ≠ q) : Src (upd H D o) p q cells := by
  obtain ⟨⟨i, c, sd, k, h1, h2, h3⟩, h4, h5, h6⟩ := h
  exact ⟨⟨i, c, sd, k, by rw [upd_ne n.1.symm]; exact h1, h2, h3⟩, by rw [upd_ne n.2.symm]; exact h4, h5, h6⟩
theorem But.exs {p : Addr} {H H' : Hp} (b : But p H H') : Exs [p] H H' := Exs.but List.mem_cons_self b
theorem rat_pos {s : Int × Int} (h : isRat (ratT s) = true) : 0 < s.2 := by
  obtain ⟨t, b, e, hb⟩ := isRat_form h
  injection e with e
  injection e with e1 e2
  injection e2 with e2 _
  injection e2 with e2
  omega
theorem rat_one (t : Int) : isRat (ratT (t, 1)) = true := by
  have e : Nat.gcd t.natAbs (1 : Int).natAbs = 1 := Nat.gcd_one_right _
  show (true && (true && (decide ((1 : Int) ≤ 1) && decide (Nat.gcd t.natAbs (1 : Int).natAbs = 1)))) = true
  rw [decide_eq_true e]
  rfl
theorem ratT_noL (s : Int × Int) : noL (ratT s) = true := rfl
theorem okR_of {d : PyData} (h : isRat d = true) : okR d = true := by
  unfold okR
  rw [h, Bool.or_true]
theorem ratP_T (s : Int × Int) : ratP (ratT s) = ratT s := rfl
theorem low_fin {t b : Int} {m : Nat} (ht : t.natAbs < m) (hb : b.natAbs < m) : (low t b).1.natAbs < m ∧ (low t b).2.natAbs < m := ⟨Nat.lt_of_le_of_lt low_abs.1 ht, Nat.lt_of_le_of_lt low_abs.2 hb⟩
/-- ratios in lowest terms, within the law's bounds -/
structure Wd (s : Int × Int) : Prop where
  rat : isRat (ratT s) = true
  a : s.1.natAbs < 10 ^ 18 + 1
  b : s.2.natAbs < 10 ^ 18 + 1
def spWide (K : PySem.W.Frag) : Sp := fun vs H Q _ => ∃ (p q : Addr) (cells : List Int), vs = [.ref p] ∧ Src H p q cells ∧ ∀ (v : V) (s : Int × Int) (H' : Hp), Dp K H' v (ratT s) → Wd s → Src H' p q cells → Exs [p] H H' → Dp K (wos [p] H') v (ratT s) → Q v H'
section
variable {P : Program} {w : World} {K : PySem.W.Frag} {mg : Str → Option Value} {base : Heap}
theorem rat_at {H : Hp} {x : V} {s : Int × Int} (h : Dp K H x (ratT s)) : ∃ T, x = .ref T ∧ SqT K H T [.int s.1, .int s.2] := by
  obtain ⟨a, xs, rfl, hs, hd⟩ := dp_tup h
  obtain ⟨y, z, rfl, h1, h2⟩ := dpAll2 hd
  cases dp_int h1
  cases dp_int h2
  exact ⟨a, rfl, hs⟩
theorem scWide : FnScope ["_law_src"] ["_law_src"] (defScope s__law_wide) := ⟨rfl, rfl, rfl, by decide +kernel, rfl, by decide +kernel, by decide +kernel⟩
theorem ok_wide {f fD fL : Addr} {fd fdD fdL : FuncData} (F : Fun K "_law_wide" "_law_wide" s__law_wide f fd) (GD : FnOk P w K mg base CX0 1 fD fdD ["_law_src", "_law_many"] spDraw) (mD : mg "_law_draw" = some (.ref fD)) (kD : PySem.W.keepIn K (.ref fD) = true) (bD : Binds K fdD ["_law_src", "_law_many"] [])
    (GL : FnOk P w K mg base CX0 1 fL fdL ["_law_top", "_law_bottom"] spLowest) (mL : mg "_law_low" = some (.ref fL)) (kL : PySem.W.keepIn K (.ref fL) = true) (bL : Binds K fdL ["_law_top", "_law_bottom"] []) : FnOk P w K mg base CX0 2 f fd ["_law_src"] (spWide K) := by
  refine F.ok scWide (fun vs H Q E h => ?_) (fun cdv A outer s H vs Q E hr h => ?_)
  · obtain ⟨p, q, cells, rfl, _⟩ := h
    rfl
  · obtain ⟨p, q, cells, rfl, hS, k⟩ := h
    have nd := scWide.nd
    refine ⟨_, pss_cons (ps_if (pt_cmpR op_gt (pe_call GD hr (by rfl) mD kD bD .nil pass0 (pa_cons (pv 0) (pa_cons pe_int pa_nil))) pe_int (nomark _))
        (pss_one (ps_ret (pe_call GL hr (by rfl) mL kL bL .nil pass0 (pa_cons (pe_op op_sub (pe_call GD hr (by rfl) mD kD bD .nil pass0 (pa_cons (pv 0) (pa_cons pe_int pa_nil))) pe_int) (pa_cons (pe_op op_add pe_int (pe_call GD hr (by rfl) mD kD bD .nil pass0 (pa_cons (pv 0) (pa_cons pe_int pa_nil)))) pa_nil))))) pss_nil)
      (pss_one (ps_ret (pe_call GL hr (by rfl) mL kL bL .nil pass0 (pa_cons (pe_op op_sub (pe_call GD hr (by rfl) mD kD bD .nil pass0 (pa_cons (pv 0) (pa_cons (pe_op op_pow pe_int pe_int) pa_nil))) (pe_op op_pow pe_int pe_int))
        (pa_cons (pe_op op_add pe_int (pe_call GD hr (by rfl) mD kD bD .nil pass0 (pa_cons (pv 0) (pa_cons (pe_op op_pow pe_int pe_int) pa_nil)))) pa_nil))))), ?_⟩
    have fin : ∀ {t b : Int} {G : Hp} {T : Addr}, t.natAbs < 10 ^ 18 + 1 → b.natAbs < 10 ^ 18 + 1 → 0 < b → Src G p q cells → But p H G → G T = none → Q (.ref T) (upd G T (.tup [.int (low t b).1, .int (low t b).2])) := fun {t b G T} ht hb hp sG bG hT => by
      have nT : T ∉ [p] := fun z => (sG.out hT).1 (List.mem_singleton.mp z)
      exact k _ (low t b) _ (ratP_dp (SqT.of upd_same)) ⟨low_rat hp, Nat.lt_of_le_of_lt low_abs.1 ht, Nat.lt_of_le_of_lt low_abs.2 hb⟩ (sG.put (sG.out hT)) ((But.exs bG).trans (Exs.of (same_upd hT))) (ratP_dp (SqT.of (by rw [wos_out nT]; exact upd_same)))
    have big : ∀ {n : Nat}, n < 10 ^ 18 + 1 → n < 2 ^ 8000 := fun {n} h => Nat.lt_of_lt_of_le h (Nat.le_of_lt (by decide +kernel))
    refine ⟨_, rfl, p, q, cells, 3, rfl, hS, by decide, by decide, fun d1 G1 a1 c1 S1 B1 => ?_⟩
    refine ⟨_, _, rfl, rfl, _, rfl, ite2 (fun _ => ?_) (fun _ => ?_)⟩
    · refine ⟨_, rfl, p, q, cells, 25, rfl, S1, by decide, by decide, fun d2 G2 a2 c2 S2 B2 => ?_⟩
      refine ⟨_, _, rfl, rfl, _, rfl, p, q, cells, 7, rfl, S2, by decide, by decide, fun d3 G3 a3 c3 S3 B3 => ?_⟩
      refine ⟨_, _, rfl, rfl, _, _, rfl, by omega, big (by omega), fun T hT => fin (by omega) (by omega) (by omega) S3 ((B1.trans B2).trans B3) hT⟩
    · refine ⟨_, rfl, _, _, rfl, rfl, ⟨by decide, by decide, by decide⟩, p, q, cells, 10 ^ 18, rfl, S1, by decide, by decide, fun d2 G2 a2 c2 S2 B2 => ?_⟩
      refine ⟨_, _, rfl, rfl, ⟨by decide, by decide, by decide⟩, _, _, rfl, rfl, _, rfl, _, _, rfl, rfl, ⟨by decide, by decide, by decide⟩, p, q, cells, 10 ^ 18, rfl, S2, by decide, by decide, fun d3 G3 a3 c3 S3 B3 => ?_⟩
      have e17 : ((10 : Int) ^ (17 : Int).toNat) = 100000000000000000 := by decide
      refine ⟨_, _, rfl, rfl, _, _, rfl, by omega, big (by omega), fun T hT => fin (by omega) (by omega) (by omega) S3 ((B1.trans B2).trans B3) hT⟩
end
end Lw

set_option maxRecDepth 100000
set_option linter.unusedVariables false
set_option maxHeartbeats 4000000
namespace Lw
open PySem PySem.Spec PyProof.Rows L2 VG
abbrev pEq : Stmt := inClass s_Problem 8
/-- what isinstance of an instance asks -/
structure TxI (K : PySem.W.Frag) (C : Addr) : Prop where
  ha : PySem.W.findIn K (.ref C) "__class__" = some (some (.builtin "object.__class__"))
  hn : PySem.W.specialIn K (.builtin "object.__class__") "__get__" = some (some (.builtin "getset_descriptor.__get__"))
  htk : PySem.W.takesIn K (.builtin "object.__class__") = some true
  hm : PySem.W.mroIn K C (.type "object") = some true
  me : PySem.W.kitOne K (.ref C) (.ref C) = some true
  li : PySem.W.kitOne K (.type "list") (.ref C) = some false
theorem TxI.ty {K : PySem.W.Frag} {C a dx : Addr} {H : Hp} {fs : List (Str × V)} (I : TxI K C) (c : Cls K C) (h : H a = some (.ins C dx fs)) : TyX K H (.ref a) (.ref C) := .base (.ins h c I.ha I.hn I.htk I.hm)
/-- a problem just made at x -/
structure NewP (K : PySem.W.Frag) (C : Addr) (H H' : Hp) (x : Addr) (n : Int) (rs : List PyData) : Prop where
  new : H x = none
  ex : ∃ dx L ys, H L = none ∧ H' x = some (.ins C dx (flds (.int n) (.ref L))) ∧ H' L = some (.lst ys) ∧ DpAll K H' ys rs
theorem NewP.on {K : PySem.W.Frag} {C x : Addr} {H H1 H' : Hp} {n : Int} {rs : List PyData} (h : NewP K C H1 H' x n rs) (e : Same H H1) : NewP K C H H' x n rs := by
  have none_of : ∀ {b : Addr}, H1 b = none → H b = none := fun {b} h => by
    cases z : H b with
    | none => rfl
    | some o =>
      rw [e _ _ z] at h
      cases h
  obtain ⟨dx, L, ys, h1, h2⟩ := h.ex
  exact ⟨none_of h.new, dx, L, ys, none_of h1, h2⟩
theorem NewP.at_ {K : PySem.W.Frag} {C x : Addr} {H H' : Hp} {n : Int} {rs : List PyData} {S : List Addr} (h : NewP K C H H' x n rs) (hS : ∀ b ∈ S, ∃ o, H b = some o) (hL : ∀ b ∈ S, ∃ ys, H' b = some (.lst ys)) (nl : noLs rs = true) : ProbAt K C (wos S H') x n rs := by
  obtain ⟨dx, L, ys, h1, h2, h3, h4⟩ := h.ex
  have nx := fresh_out hS h.new
  have nL := fresh_out hS h1
  exact ⟨dx, L, by rw [wos_out nx]; exact h2, .lst (SqL.of (by rw [wos_out nL]; exact h3)) (DpAll.wosT hL _ _ nl h4)⟩
/-- what comes of making one -/
theorem newP_of {K : PySem.W.Frag} {C x dx L : Addr} {H H2 : Hp} {n : Int} {rs : List PyData} {ys : List V} (hx : H x = none) (hdx : H dx = none) (hp2 : H2 x = some (.ins C dx (flds (.int n) (.ref L)))) (hL : upd (upd H dx (.own x)) x (.ins C dx []) L = none) (hL2 : H2 L = some (.lst ys))
    (hd2 : DpAll K (wos [L] H2) ys rs) (e2 : Exs [x] (upd (upd H dx (.own x)) x (.ins C dx [])) H2) : Same H H2 ∧ NewP K C H H2 x n rs := by
  have m0 : Same H (upd (upd H dx (.own x)) x (.ins C dx [])) := fun b o z => by
    rw [upd_ne (ne_of_none z hx), upd_ne (ne_of_none z hdx)]
    exact z
  have hL0 : H L = none := by
    cases z : H L with
    | none => rfl
    | some o =>
      rw [m0 _ _ z] at hL
      cases hL
  exact ⟨fun b o z => Exs.on e2 (fun y => ne_of_none z hx (List.mem_singleton.mp y)) (m0 _ _ z), hx, dx, L, ys, hL0, hp2, hL2, DpAll.same wos_sub _ _ hd2⟩
section
variable {P : Program} {w : World} {K : PySem.W.Frag} {mg : Str → Option Value} {base : Heap}
def spEqP (K : PySem.W.Frag) (C : Addr) : Sp := fun vs H Q _ => ∃ (x : Addr) (y : V) (n : Int) (rs : List PyData), vs = [.ref x, y] ∧ ProbAt K C H x n rs ∧ SeqAt.shaped (.list rs) = true ∧
  ((∃ b n2 rs2, y = .ref b ∧ ProbAt K C H b n2 rs2 ∧ SeqAt.shaped (.list rs2) = true ∧ Q (.bl (decide (n = n2) && PyData.eqv (.list rs) (.list rs2))) H) ∨ (∃ ds, Dp K H y (.list ds) ∧ Q (.bl false) H))
theorem scEqP : FnScope ["self", "other"] ["self", "other"] (defScope pEq) := ⟨rfl, rfl, rfl, by decide +kernel, rfl, by decide +kernel, by decide +kernel⟩
theorem ok_eqP {f C : Addr} {fd : FuncData} (F : Fun K "__eq__" "Problem.__eq__" pEq f fd) (T : TxP K C) (I : TxI K C) (is : mg "isinstance" = none) (mC : mg "Problem" = some (.ref C)) : FnOk P w K mg base CX0 1 f fd ["self", "other"] (spEqP K C) := by
  refine F.ok scEqP (fun vs H Q E h => ?_) (fun cdv A outer s H vs Q E hr h => ?_)
  · obtain ⟨x, y, n, rs, rfl, _⟩ := h
    rfl
  · obtain ⟨x, y, n, rs, rfl, ⟨dx, L, hx, hL⟩, s1, h⟩ := h
    have hun := hr.units
    refine ⟨_, pss_one (ps_ret (pe_and (pe_callB call_isi (by rfl) is (by decide +kernel) (pa_cons (pv 1) (pa_cons (pe_glob (v := .ref C) (by rfl) mC rfl) pa_nil)))
      (pe_and (pe_cmpR op_eq (pe_fld (pv 0) rfl) (pe_fld (pv 1) rfl) (nomark _)) (pe_one (pe_cmpR (op_eqD hun) (pe_fld (pv 0) rfl) (pe_fld (pv 1) rfl) (nomark _)))))), ?_⟩
    rcases h with ⟨b, n2, rs2, rfl, ⟨dy, L2, hb, hL2⟩, s2, q⟩ | ⟨ds, hy, q⟩
    · refine ⟨_, rfl, _, _, _, _, true, rfl, .own C, I.ty T.cl hb, I.me, _, rfl, iteT ?_⟩
      refine ⟨_, rfl, x, C, dx, _, _, rfl, hx, T.cl, T.nS, flds_s _ _, _, rfl, b, C, dy, _, _, rfl, hb, T.cl, T.nS, flds_s _ _, rfl, _, rfl, ?_⟩
      have e : decide (V.int n = V.int n2) = decide (n = n2) := vint_ne
      rw [e]
      cases z : decide (n = n2) with
      | false =>
        rw [z] at q
        exact iteF q
      | true =>
        rw [z] at q
        exact iteT ⟨_, rfl, x, C, dx, _, _, rfl, hx, T.cl, T.nR, flds_r _ _, _, rfl, b, C, dy, _, _, rfl, hb, T.cl, T.nR, flds_r _ _, .list rs, .list rs2, hL, hL2, s1, s2, q⟩
    · cases hy with
      | lst hs hd => exact ⟨_, rfl, _, _, _, _, false, rfl, .own C, tyx_list hs, I.li, _, rfl, iteF q⟩
end
end Lw

set_option maxRecDepth 100000
set_option linter.unusedVariables false
set_option maxHeartbeats 4000000
namespace Lw
open PySem PySem.Spec PyProof.Rows L2 VG
structure NmC (mg : Str → Option Value) : Prop where
  isi : mg "isinstance" = none
  list : mg "list" = none
  tup : mg "tuple" = none
section
variable {P : Program} {w : World} {K : PySem.W.Frag} {mg : Str → Option Value} {base : Heap}
theorem scCopied : FnScope ["value", "item"] ["value"] (defScope s_copied) := ⟨rfl, rfl, rfl, by decide +kernel, rfl, by decide +kernel, by decide +kernel⟩
theorem copied_step {n k : Nat} {f : Addr} {fd : FuncData} (F : Fun K "copied" "copied" s_copied f fd) (T : NmC mg) (mC : mg "copied" = some (.ref f)) (bC : Binds K fd ["value"] []) (G : FnOk P w K mg base CX0 k f fd ["value"] (spPrev K n)) :
    FnOk P w K mg base CX0 (k + 1) f fd ["value"] (spCopy K n) := by
  refine F.ok scCopied (fun vs H Q E h => ?_) (fun cdv A outer s H vs Q E hr h => ?_)
  · obtain ⟨x, d, rfl, _⟩ := h
    rfl
  · obtain ⟨x, d, rfl, hx, hf, q⟩ := h
    have nd := scCopied.nd
    refine ⟨_, pss_cons (ps_if (pt_val (pe_callB call_isi (by rfl) T.isi (by decide +kernel) (pa_cons (pv 0) (pa_cons (pe_bltn (v := .ty "list") (by rfl) T.list (by decide +kernel) rfl) pa_nil))))
        (pss_one (ps_ret (pe_lc (own := [("item", 1)]) (g := gName 1) (tt := tYes) rfl nd (pi_list (pv 0)) (blkOk_by (own := [("item", 1)]) (N := ["value", "item"]) (sc := defScope s_copied) (by decide +kernel)) (fun _ _ _ _ _ => pg_name (i := 1) nd rfl (Or.inl rfl)) (fun _ _ _ _ _ => pts_nil)
          (fun _ _ _ _ _ => pe_call G hr (by rfl) mC F.kp bC .nil pass0 (pa_cons (pv 1) pa_nil))))) pss_nil)
      (pss_cons (ps_if (pt_val (pe_callB call_isi (by rfl) T.isi (by decide +kernel) (pa_cons (pv 0) (pa_cons (pe_bltn (v := .ty "tuple") (by rfl) T.tup (by decide +kernel) rfl) pa_nil))))
        (pss_one (ps_ret (pe_callTy call_tuple_of (by rfl) T.tup (by decide +kernel) (pa_cons (pe_lc (own := [("item", 1)]) (g := gName 1) (tt := tYes) rfl nd (pi_tup (pv 0)) (blkOk_by (own := [("item", 1)]) (N := ["value", "item"]) (sc := defScope s_copied) (by decide +kernel)) (fun _ _ _ _ _ => pg_name (i := 1) nd rfl (Or.inl rfl)) (fun _ _ _ _ _ => pts_nil)
          (fun _ _ _ _ _ => pe_call G hr (by rfl) mC F.kp bC .nil pass0 (pa_cons (pv 1) pa_nil))) pa_nil)))) pss_nil)
      (pss_one (ps_ret (pv 0)))), ?_⟩
    cases hx with
    | non => exact ⟨_, rfl, _, _, _, _, false, rfl, .ty "list", .base .non, kit_ty (by decide +kernel), _, rfl, iteF ⟨_, rfl, _, _, _, _, false, rfl, .ty "tuple", .base .non, kit_ty (by decide +kernel), _, rfl, iteF ⟨_, rfl, q _ H (Same.refl H) .non⟩⟩⟩
    | bl b => exact ⟨_, rfl, _, _, _, _, false, rfl, .ty "list", .base (.bl b), kit_ty (by decide +kernel), _, rfl, iteF ⟨_, rfl, _, _, _, _, false, rfl, .ty "tuple", .base (.bl b), kit_ty (by decide +kernel), _, rfl, iteF ⟨_, rfl, q _ H (Same.refl H) (.bl b)⟩⟩⟩
    | int i => exact ⟨_, rfl, _, _, _, _, false, rfl, .ty "list", .base (.int i), kit_ty (by decide +kernel), _, rfl, iteF ⟨_, rfl, _, _, _, _, false, rfl, .ty "tuple", .base (.int i), kit_ty (by decide +kernel), _, rfl, iteF ⟨_, rfl, q _ H (Same.refl H) (.int i)⟩⟩⟩
    | str z => exact ⟨_, rfl, _, _, _, _, false, rfl, .ty "list", .base (.str z), kit_ty (by decide +kernel), _, rfl, iteF ⟨_, rfl, _, _, _, _, false, rfl, .ty "tuple", .base (.str z), kit_ty (by decide +kernel), _, rfl, iteF ⟨_, rfl, q _ H (Same.refl H) (.str z)⟩⟩⟩
    | @lst a xs ds hs hd =>
      refine ⟨_, rfl, _, _, _, _, true, rfl, .ty "list", tyx_list hs, kit_ty (by decide +kernel), _, rfl, iteT ?_⟩
      obtain ⟨m, rfl, hw, hl⟩ : ∃ m, n = m + 1 ∧ ds.length ≤ 1000 ∧ ∀ d ∈ ds, fit m d = true := by
        cases n with
        | zero => cases hf
        | succ m =>
          obtain ⟨h1, h2⟩ := Bool.and_eq_true_iff.mp (show (decide (ds.length ≤ 1000) && ds.all (fit m)) = true from hf)
          exact ⟨m, rfl, of_decide_eq_true h1, List.all_eq_true.mp h2⟩
      refine ⟨_, rfl, a, rfl, ⟨_, hs⟩, fun D hD => lc_list (K := K) (a := a) (xs := xs) (Copying K H D ds) (Copying.start hD) (fun i G _ c => c.same.seq hs) (fun i y G hy c => ?_) (fun G c => ?_)⟩
      · obtain ⟨e, he, hye⟩ := DpAll.at' hd hy
        refine ⟨rfl, y, rfl, y, e, rfl, Dp.same c.same e y hye, hl e (List.mem_of_getElem? he), fun y' G' sm hn => ?_⟩
        obtain ⟨acc, e1, e2, e3⟩ := c.more hD he sm hn
        have lt : i < ds.length := (List.getElem?_eq_some_iff.mp he).1
        exact ⟨acc, e1, by rw [e2]; exact Nat.lt_of_lt_of_le (Nat.lt_of_lt_of_le lt hw) (by decide), e3⟩
      · rw [DpAll.len hd] at c
        obtain ⟨acc, e1, e2⟩ := c.all hD
        exact q _ G c.same (.lst (SqL.of (by rw [newer_at hD]; exact e1)) e2)
    | @tup a xs ds hs hd =>
      refine ⟨_, rfl, _, _, _, _, false, rfl, .ty "list", tyx_tup hs, kit_ty (by decide +kernel), _, rfl, iteF ⟨_, rfl, _, _, _, _, true, rfl, .ty "tuple", tyx_tup hs, kit_ty (by decide +kernel), _, rfl, iteT ?_⟩⟩
      obtain ⟨m, rfl, hw, hl⟩ : ∃ m, n = m + 1 ∧ ds.length ≤ 1000 ∧ ∀ d ∈ ds, fit m d = true := by
        cases n with
        | zero => cases hf
        | succ m =>
          obtain ⟨h1, h2⟩ := Bool.and_eq_true_iff.mp (show (decide (ds.length ≤ 1000) && ds.all (fit m)) = true from hf)
          exact ⟨m, rfl, of_decide_eq_true h1, List.all_eq_true.mp h2⟩
      refine ⟨_, rfl, a, rfl, ⟨_, hs⟩, fun D hD => lc_tup (K := K) (a := a) (xs := xs) (Copying K H D ds) (Copying.start hD) (fun i G _ c => Same.tup c.same hs) (fun i y G hy c => ?_) (fun G c => ?_)⟩
      · obtain ⟨e, he, hye⟩ := DpAll.at' hd hy
        refine ⟨rfl, y, rfl, y, e, rfl, Dp.same c.same e y hye, hl e (List.mem_of_getElem? he), fun y' G' sm hn => ?_⟩
        obtain ⟨acc, e1, e2, e3⟩ := c.more hD he sm hn
        have lt : i < ds.length := (List.getElem?_eq_some_iff.mp he).1
        exact ⟨acc, e1, by rw [e2]; exact Nat.lt_of_lt_of_le (Nat.lt_of_lt_of_le lt hw) (by decide), e3⟩
      · rw [DpAll.len hd] at c
        obtain ⟨acc, e1, e2⟩ := c.all hD
        refine ⟨D, acc, rfl, .inl ⟨SqL.of e1, fun l hl => ?_⟩⟩
        have sm := same_upd (o := .tup acc) hl
        have hl0 : H l = none := c.same.free hl
        refine q _ _ (c.same.trans sm) (.tup (SqT.of (by rw [newer_at hl0]; exact upd_same)) (DpAll.same (newer_mono (fun b z => z) fun b z o e => sm b o e) _ _ e2))
/-- copied, for data of any depth -/
theorem ok_copied {f : Addr} {fd : FuncData} (F : Fun K "copied" "copied" s_copied f fd) (T : NmC mg) (mC : mg "copied" = some (.ref f)) (bC : Binds K fd ["value"] []) : ∀ n, FnOk P w K mg base CX0 (n + 1) f fd ["value"] (spCopy K n)
  | 0 => copied_step F T mC bC ⟨fun _ _ _ _ h => False.elim h, fun _ _ _ _ _ _ _ _ _ _ _ _ _ h => False.elim h⟩
  | n + 1 => copied_step F T mC bC (ok_copied F T mC bC n)
/-- data as a list, where they are a tuple -/
def listD : PyData → PyData
  | .tuple ds => .list ds
  | d => d
def spListed (K : PySem.W.Frag) (n : Nat) : Sp := fun vs H Q _ => ∃ (x : V) (d : PyData), vs = [x] ∧ Dp K H x d ∧ fit (n + 1) d = true ∧ ∀ (y : V) (H' : Hp), Same H H' → Dp K (newer H H') y (listD d) → Q y H'
theorem scListed : FnScope ["value", "item"] ["value"] (defScope s_listed) := ⟨rfl, rfl, rfl, by decide +kernel, rfl, by decide +kernel, by decide +kernel⟩
theorem upd_none {H : Hp} {T b : Addr} {o : HO} (h : upd H T o b = none) : H b = none := by
  by_cases e : b = T
  · rw [e, upd_same] at h
    cases h
  · rw [upd_ne e] at h
    exact h
theorem ok_listed {n : Nat} {f fC : Addr} {fd fdC : FuncData} (F : Fun K "listed" "listed" s_listed f fd) (T : NmC mg) (GC : FnOk P w K mg base CX0 (n + 1) fC fdC ["value"] (spCopy K n)) (mC : mg "copied" = some (.ref fC)) (kC : PySem.W.keepIn K (.ref fC) = true) (bC : Binds K fdC ["value"] []) :
    FnOk P w K mg base CX0 (n + 2) f fd ["value"] (spListed K n) := by
  refine F.ok scListed (fun vs H Q E h => ?_) (fun cdv A outer s H vs Q E hr h => ?_)
  · obtain ⟨x, d, rfl, _⟩ := h
    rfl
  · obtain ⟨x, d, rfl, hx, hf, q⟩ := h
    have nd := scListed.nd
    have two : (2 : Nat) ≤ sizeLine := by decide
    cases hq : isSeq d with
    | false =>
      refine ⟨_, pss_cons (ps_if (pt_val (pe_callB call_isiT (by rfl) T.isi (by decide +kernel) (pa_cons (pv 0) (pa_cons (pe_tup (pa_cons (pe_bltn (v := .ty "list") (by rfl) T.list (by decide +kernel) rfl) (pa_cons (pe_bltn (v := .ty "tuple") (by rfl) T.tup (by decide +kernel) rfl) pa_nil))) pa_nil))))
          (pss_one (ps_ret (pe_lc (own := [("item", 1)]) (g := gName 1) (tt := tYes) rfl nd (pi_list (pv 0)) (blkOk_by (own := [("item", 1)]) (N := ["value", "item"]) (sc := defScope s_listed) (by decide +kernel)) (fun _ _ _ _ _ => pg_name (i := 1) nd rfl (Or.inl rfl)) (fun _ _ _ _ _ => pts_nil)
            (fun _ _ _ _ _ => pe_call GC hr (by rfl) mC kC bC .nil pass0 (pa_cons (pv 1) pa_nil))))) pss_nil)
        (pss_one (ps_ret (pv 0))), ?_⟩
      refine ⟨_, rfl, two, fun T hT => ⟨_, T, _, _, _, _, rfl, upd_same, clsv2, Dp.tyx (Dp.same (same_upd hT) _ _ hx), kit_seq hx, _, rfl, ?_⟩⟩
      rw [hq]
      refine iteF ⟨_, rfl, q _ _ (same_upd hT) ?_⟩
      have e : listD d = d := by cases d <;> first | rfl | cases hq
      rw [e]
      exact dp_newer hx (fun ds z => by rw [z] at hq; cases hq) (fun ds z => by rw [z] at hq; cases hq)
    | true =>
      cases hx with
      | non => cases hq
      | bl _ => cases hq
      | int _ => cases hq
      | str _ => cases hq
      | @lst a xs ds hs hd =>
        refine ⟨_, pss_cons (ps_if (pt_val (pe_callB call_isiT (by rfl) T.isi (by decide +kernel) (pa_cons (pv 0) (pa_cons (pe_tup (pa_cons (pe_bltn (v := .ty "list") (by rfl) T.list (by decide +kernel) rfl) (pa_cons (pe_bltn (v := .ty "tuple") (by rfl) T.tup (by decide +kernel) rfl) pa_nil))) pa_nil))))
            (pss_one (ps_ret (pe_lc (own := [("item", 1)]) (g := gName 1) (tt := tYes) rfl nd (pi_list (pv 0)) (blkOk_by (own := [("item", 1)]) (N := ["value", "item"]) (sc := defScope s_listed) (by decide +kernel)) (fun _ _ _ _ _ => pg_name (i := 1) nd rfl (Or.inl rfl)) (fun _ _ _ _ _ => pts_nil)
              (fun _ _ _ _ _ => pe_call GC hr (by rfl) mC kC bC .nil pass0 (pa_cons (pv 1) pa_nil))))) pss_nil)
          (pss_one (ps_ret (pv 0))), ?_⟩
        refine ⟨_, rfl, two, fun T hT => ⟨_, T, _, _, _, _, rfl, upd_same, clsv2, Dp.tyx (Dp.same (same_upd hT) _ _ (Dp.lst hs hd)), kit_seq (Dp.lst hs hd), _, rfl, iteT ?_⟩⟩
        have mT := same_upd (o := .tup [.ty "list", .ty "tuple"]) hT
        obtain ⟨hw, hl⟩ : ds.length ≤ 1000 ∧ ∀ d ∈ ds, fit n d = true := by
          obtain ⟨h1, h2⟩ := Bool.and_eq_true_iff.mp (show (decide (ds.length ≤ 1000) && ds.all (fit n)) = true from hf)
          exact ⟨of_decide_eq_true h1, List.all_eq_true.mp h2⟩
        have hd1 := DpAll.same mT _ _ hd
        refine ⟨_, rfl, a, rfl, ⟨_, mT.seq hs⟩, fun D hD => lc_list (K := K) (a := a) (xs := xs) (Copying K _ D ds) (Copying.start hD) (fun i G _ c => c.same.seq (mT.seq hs)) (fun i y G hy c => ?_) (fun G c => ?_)⟩
        · obtain ⟨e, he, hye⟩ := DpAll.at' hd1 hy
          refine ⟨rfl, y, rfl, y, e, rfl, Dp.same c.same e y hye, hl e (List.mem_of_getElem? he), fun y' G' sm hn => ?_⟩
          obtain ⟨acc, e1, e2, e3⟩ := c.more hD he sm hn
          have lt : i < ds.length := (List.getElem?_eq_some_iff.mp he).1
          exact ⟨acc, e1, by rw [e2]; exact Nat.lt_of_lt_of_le (Nat.lt_of_lt_of_le lt hw) (by decide), e3⟩
        · rw [DpAll.len hd] at c
          obtain ⟨acc, e1, e2⟩ := c.all hD
          have sub := newer_mono (H := upd H T (.tup [.ty "list", .ty "tuple"])) (H' := G) (G := H) (G' := G) (fun b z => upd_none z) fun b z o e => e
          exact q _ G (mT.trans c.same) (.lst (SqL.of (sub _ _ (by rw [newer_at hD]; exact e1))) (DpAll.same sub _ _ e2))
      | @tup a xs ds hs hd =>
        refine ⟨_, pss_cons (ps_if (pt_val (pe_callB call_isiT (by rfl) T.isi (by decide +kernel) (pa_cons (pv 0) (pa_cons (pe_tup (pa_cons (pe_bltn (v := .ty "list") (by rfl) T.list (by decide +kernel) rfl) (pa_cons (pe_bltn (v := .ty "tuple") (by rfl) T.tup (by decide +kernel) rfl) pa_nil))) pa_nil))))
            (pss_one (ps_ret (pe_lc (own := [("item", 1)]) (g := gName 1) (tt := tYes) rfl nd (pi_tup (pv 0)) (blkOk_by (own := [("item", 1)]) (N := ["value", "item"]) (sc := defScope s_listed) (by decide +kernel)) (fun _ _ _ _ _ => pg_name (i := 1) nd rfl (Or.inl rfl)) (fun _ _ _ _ _ => pts_nil)
              (fun _ _ _ _ _ => pe_call GC hr (by rfl) mC kC bC .nil pass0 (pa_cons (pv 1) pa_nil))))) pss_nil)
          (pss_one (ps_ret (pv 0))), ?_⟩
        refine ⟨_, rfl, two, fun T hT => ⟨_, T, _, _, _, _, rfl, upd_same, clsv2, Dp.tyx (Dp.same (same_upd hT) _ _ (Dp.tup hs hd)), kit_seq (Dp.tup hs hd), _, rfl, iteT ?_⟩⟩
        have mT := same_upd (o := .tup [.ty "list", .ty "tuple"]) hT
        obtain ⟨hw, hl⟩ : ds.length ≤ 1000 ∧ ∀ d ∈ ds, fit n d = true := by
          obtain ⟨h1, h2⟩ := Bool.and_eq_true_iff.mp (show (decide (ds.length ≤ 1000) && ds.all (fit n)) = true from hf)
          exact ⟨of_decide_eq_true h1, List.all_eq_true.mp h2⟩
        have hd1 := DpAll.same mT _ _ hd
        refine ⟨_, rfl, a, rfl, ⟨_, Same.tup mT hs⟩, fun D hD => lc_tup (K := K) (a := a) (xs := xs) (Copying K _ D ds) (Copying.start hD) (fun i G _ c => Same.tup c.same (Same.tup mT hs)) (fun i y G hy c => ?_) (fun G c => ?_)⟩
        · obtain ⟨e, he, hye⟩ := DpAll.at' hd1 hy
          refine ⟨rfl, y, rfl, y, e, rfl, Dp.same c.same e y hye, hl e (List.mem_of_getElem? he), fun y' G' sm hn => ?_⟩
          obtain ⟨acc, e1, e2, e3⟩ := c.more hD he sm hn
          have lt : i < ds.length := (List.getElem?_eq_some_iff.mp he).1
          exact ⟨acc, e1, by rw [e2]; exact Nat.lt_of_lt_of_le (Nat.lt_of_lt_of_le lt hw) (by decide), e3⟩
        · rw [DpAll.len hd] at c
          obtain ⟨acc, e1, e2⟩ := c.all hD
          have sub := newer_mono (H := upd H T (.tup [.ty "list", .ty "tuple"])) (H' := G) (G := H) (G' := G) (fun b z => upd_none z) fun b z o e => e
          exact q _ G (mT.trans c.same) (.lst (SqL.of (sub _ _ (by rw [newer_at hD]; exact e1))) (DpAll.same sub _ _ e2))
end
end Lw

set_option maxRecDepth 100000
namespace Lw
open PySem PySem.Spec PyProof.Rows L2
open TL (numL)
open NumText (AllDigits digitsVal)
/-! ### texts of numbers and of ratios, by their signs -/
/-- the text of some signs -/
abbrev Tx (l : List Nat) : Str := ⟨l.toArray⟩
theorem tx_list (l : List Nat) : (Tx l).cps.toList = l := rfl
theorem tx_len (l : List Nat) : (Tx l).length = l.length := by simp [Str.length]
theorem tx_of (x : Str) : Tx x.cps.toList = x := rfl
theorem tx_app (a b : List Nat) : Tx a ++ Tx b = Tx (a ++ b) := SX.S_cat a b
theorem tx_inj {a b : List Nat} (h : Tx a = Tx b) : a = b := SX.S_inj h
theorem val_snoc (l : List Nat) (c : Nat) : digitsVal (l ++ [c]) = digitsVal l * 10 + (c - 48) := by
  unfold digitsVal
  rw [List.foldl_append]
  rfl
theorem digs_app {a b : List Nat} (h : AllDigits (a ++ b)) : AllDigits a ∧ AllDigits b := ⟨fun c hc => h c (List.mem_append_left _ hc), fun c hc => h c (List.mem_append_right _ hc)⟩
/-- no needless zero ahead -/
def NoZ (l : List Nat) : Prop := l = [48] ∨ l.head? ≠ some 48
theorem num_zero : numL 0 = [48] := TL.numL_lt (by decide)
theorem num_back : ∀ (k : Nat) (l : List Nat), l.length = k → AllDigits l → l ≠ [] → NoZ l → numL (digitsVal l) = l := by
  intro k
  induction k with
  | zero => intro l hl _ hn; exact absurd (List.length_eq_zero_iff.mp hl) hn
  | succ k ih =>
    intro l hl hd hn hz
    obtain ⟨i, c, rfl⟩ : ∃ i c, l = i ++ [c] := ⟨l.dropLast, l.getLast hn, (List.dropLast_concat_getLast hn).symm⟩
    have hl : i.length = k := by simpa using hl
    obtain ⟨hi, hc⟩ := digs_app hd
    have hc := hc c (List.mem_singleton.mpr rfl)
    rw [val_snoc]
    by_cases hi0 : i = []
    · subst hi0
      show numL (0 * 10 + (c - 48)) = [c]
      rw [TL.numL_lt (by omega), show 48 + (0 * 10 + (c - 48)) = c by omega]
    · have hz2 : i.head? ≠ some 48 := by
        rcases hz with z | z
        · exfalso
          have := congrArg List.length z
          rw [List.length_append] at this
          have h1 : i.length ≠ 0 := fun z => hi0 (List.length_eq_zero_iff.mp z)
          have w : i.length + 1 = 1 := this
          omega
        · rw [List.head?_append] at z
          cases i with
          | nil => exact absurd rfl hi0
          | cons d r => exact z
      have e := ih i hl hi hi0 (.inr hz2)
      have h1 : 1 ≤ digitsVal i := by
        by_cases z : digitsVal i = 0
        · rw [z, num_zero] at e
          rw [← e] at hz2
          exact absurd rfl hz2
        · omega
      rw [TL.numL_step (by omega), show (digitsVal i * 10 + (c - 48)) / 10 = digitsVal i by omega, show 48 + (digitsVal i * 10 + (c - 48)) % 10 = c by omega, e]
theorem num_noz (n : Nat) : NoZ (numL n) := by
  induction n using Nat.strongRecOn with
  | _ n ih =>
    by_cases h : n < 10
    · rw [TL.numL_lt h]
      by_cases z : n = 0
      · exact .inl (by rw [z])
      · exact .inr (by show some (48 + n) ≠ some 48; intro y; have := Option.some.inj y; omega)
    · rw [TL.numL_step (by omega)]
      refine .inr ?_
      have hn := TL.numL_ne (n / 10)
      rw [List.head?_append]
      rcases ih (n / 10) (by omega) with z | z
      · have e : n / 10 = 0 := TL.numL_inj (z.trans num_zero.symm)
        omega
      · cases q : numL (n / 10) with
        | nil => exact absurd q hn
        | cons d r =>
          rw [q] at z
          exact z
/-- the text of a ratio -/
def topL (t : Int) : List Nat := (if t < 0 then [45] else []) ++ numL t.natAbs
def textL (t b : Int) : List Nat := topL t ++ (if b = 1 then [] else 47 :: numL b.natAbs)
theorem num_47 (n : Nat) : 47 ∉ numL n := TL.numL_free (.inl (by decide))
theorem num_45 (n : Nat) : 45 ∉ numL n := TL.numL_free (.inl (by decide))
theorem top_47 (t : Int) : 47 ∉ topL t := by
  unfold topL
  intro h
  rcases List.mem_append.mp h with h | h
  · split at h
    · exact absurd (List.mem_singleton.mp h) (by decide)
    · cases h
  · exact num_47 _ h
theorem top_ne (t : Int) : topL t ≠ [] := by
  unfold topL
  intro h
  exact TL.numL_ne _ (List.append_eq_nil_iff.mp h).2
theorem num_head {n : Nat} : (numL n).head? ≠ some 45 := fun h => num_45 n (List.mem_of_head? h)
theorem top_inj {s t : Int} (h : topL s = topL t) : s = t := by
  unfold topL at h
  by_cases hs : s < 0 <;> by_cases ht : t < 0
  · rw [if_pos hs, if_pos ht] at h
    have := TL.numL_inj (List.cons.inj h).2
    omega
  · rw [if_pos hs, if_neg ht] at h
    have z := congrArg List.head? h
    exact absurd z.symm num_head
  · rw [if_neg hs, if_pos ht] at h
    have z := congrArg List.head? h
    exact absurd z num_head
  · rw [if_neg hs, if_neg ht] at h
    have := TL.numL_inj (show numL s.natAbs = numL t.natAbs from h)
    omega
/-- some signs are the text of a ratio -/
structure IsR (t b : Int) (l : List Nat) : Prop where
  pos : 1 ≤ b
  low : Nat.gcd t.natAbs b.natAbs = 1
  txt : l = textL t b
theorem cut_one {a b c d : List Nat} (ha : 47 ∉ a) (hc : 47 ∉ c) (h : a ++ 47 :: b = c ++ 47 :: d) : a = c ∧ b = d := by
  induction a generalizing c with
  | nil =>
    cases c with
    | nil => exact ⟨rfl, (List.cons.inj h).2⟩
    | cons x c => exact absurd (List.mem_cons.mpr (.inl (List.cons.inj h).1)) hc
  | cons x a ih =>
    cases c with
    | nil => exact absurd (List.mem_cons.mpr (.inl (List.cons.inj h).1.symm)) ha
    | cons y c =>
      obtain ⟨e, h⟩ := List.cons.inj h
      obtain ⟨e1, e2⟩ := ih (fun z => ha (List.mem_cons_of_mem _ z)) (fun z => hc (List.mem_cons_of_mem _ z)) h
      exact ⟨by rw [e, e1], e2⟩
theorem IsR.uniq {t b s c : Int} {l : List Nat} (h : IsR t b l) (g : IsR s c l) : t = s ∧ b = c := by
  have e := h.txt.symm.trans g.txt
  unfold textL at e
  have hb := h.pos
  have hc := g.pos
  by_cases h1 : b = 1 <;> by_cases g1 : c = 1
  · rw [if_pos h1, if_pos g1, List.append_nil, List.append_nil] at e
    exact ⟨top_inj e, h1.trans g1.symm⟩
  · rw [if_pos h1, if_neg g1, List.append_nil] at e
    exact absurd (by rw [e]; exact List.mem_append_right _ List.mem_cons_self) (top_47 t)
  · rw [if_neg h1, if_pos g1, List.append_nil] at e
    exact absurd (by rw [← e]; exact List.mem_append_right _ List.mem_cons_self) (top_47 s)
  · rw [if_neg h1, if_neg g1] at e
    obtain ⟨e1, e2⟩ := cut_one (top_47 t) (top_47 s) e
    have := TL.numL_inj e2
    exact ⟨top_inj e1, by omega⟩
/-! ### str of a number -/
theorem str_int (t : Int) : Str.ofString (toString t) = Tx (topL t) := by
  refine TL.ext_tl ?_
  show (Str.ofString (toString t)).cps.toList = topL t
  unfold topL
  cases t with
  | ofNat n =>
    rw [if_neg (by exact Int.not_lt.mpr (Int.natCast_nonneg n))]
    exact TL.tl_num n
  | negSucc n =>
    rw [if_pos (Int.negSucc_lt_zero n)]
    have e : toString (Int.negSucc n) = "-" ++ toString (n + 1) := rfl
    rw [e]
    have e2 := TL.tl_num (n + 1)
    have e3 : (Str.ofString (toString ((n + 1 : Nat) : Int))) = Str.ofString (toString (n + 1)) := rfl
    rw [e3] at e2
    have e4 : TL.tl (Str.ofString ("-" ++ toString (n + 1))) = 45 :: TL.tl (Str.ofString (toString (n + 1))) := by
      show (Str.ofString _).cps.toList = 45 :: (Str.ofString _).cps.toList
      rw [PyProof.Rows.signs_ofString, PyProof.Rows.signs_ofString, String.toList_append]
      rfl
    exact e4.trans (by rw [e2]; rfl)
end Lw

set_option maxRecDepth 100000
set_option linter.unusedVariables false
namespace Lw
open PySem PySem.Spec PyProof.Rows L2 VG
open TL (numL)
open NumText (AllDigits digitsVal)
section
variable {P : Program} {w : World} {K : PySem.W.Frag} {mg : Str → Option Value} {base : Heap}
theorem scFig : FnScope ["number", "pieces", "piece"] ["number"] (defScope s__figures) := ⟨rfl, rfl, rfl, by decide +kernel, rfl, by decide +kernel, by decide +kernel⟩
def spFig : Sp := fun vs H Q _ => ∃ n : Nat, vs = [.int n] ∧ n < 10 ^ 60 ∧ ∀ H', Same H H' → Q (.str (Tx (numL n))) H'
theorem log_60 {n : Nat} (h : n < 10 ^ 60) : (n : Int).natAbs.log2 < 1920 := by
  rw [Int.natAbs_natCast]
  have : n < 2 ^ 1920 := Nat.lt_of_lt_of_le h (by decide)
  exact PySem.Flt.log2_lt_of (by decide) this
theorem num_60 {n : Nat} (h : n < 10 ^ 60) : (numL n).length ≤ 60 := TL.numL_len (by decide) h
theorem ok_fig {f : Addr} {fd : FuncData} (F : Fun K "_figures" "_figures" s__figures f fd) (ms : mg "str" = none) : FnOk P w K mg base CX0 1 f fd ["number"] spFig := by
  refine F.ok scFig (fun vs H Q E h => ?_) (fun cdv A outer s H vs Q E hr h => ?_)
  · obtain ⟨n, rfl, _⟩ := h
    rfl
  · obtain ⟨n, rfl, hn, q⟩ := h
    have nd := scFig.nd
    refine ⟨_, pss_cons (ps_set (i := 1) nd rfl (Or.inl rfl) (pe_lst pa_nil))
      (pss_cons (ps_while PassesOwn.never (pt_cmpR op_ge (pv 0) (pe_op op_pow pe_int pe_int) (nomark _)) pss_false)
      (pss_cons (ps_expr (pe_bm PySem.F.plainAttrs_list PySem.F.slot_list_append PySem.F.type_list_append mt_append (pv 1) (pa_cons (pe_callTy call_str_int (by rfl) ms (by decide +kernel) (pa_cons (pv 0) pa_nil)) pa_nil)))
      (pss_one (ps_ret (pe_join pe_str (pe_revL (pv 1))))))), ?_⟩
    refine ⟨by show 0 ≤ sizeLine; decide, fun D hD => ?_⟩
    have sm1 := same_upd (o := .lst []) hD
    dsimp only [gName, tSeq]
    refine while_by (fun σ G => G = upd H D (.lst []) ∧ σ = [some (.int n), some (.ref D), none]) (fun _ _ => 0) ⟨rfl, rfl⟩ ?_ ?_
    · rintro σ G ⟨rfl, rfl⟩
      have hf : decide ((10 : Int) ^ (60 : Int).toNat ≤ (n : Int)) = false := decide_eq_false (by
        have : ((10 : Int) ^ (60 : Int).toNat) = ((10 ^ 60 : Nat) : Int) := by decide
        omega)
      refine ⟨_, rfl, _, _, rfl, rfl, ⟨by decide, by decide, by decide⟩, _, _, rfl, rfl, _, rfl, ?_⟩
      rw [hf]
      refine iteF ?_
      refine ⟨_, rfl, .inl ⟨rfl, _, SqL.of upd_same⟩, _, rfl, _, rfl, log_60 hn, D, [], _, rfl, rfl, upd_same, by show 0 < sizeLine; decide, ?_⟩
      refine ⟨⟨_, rfl⟩, _, rfl, D, _, rfl, SqL.of upd_same, fun p hp => ?_⟩
      refine ⟨_, p, [Str.ofString (toString (n : Int))], rfl, rfl, .inl (SqL.of upd_same), ?_, ?_⟩
      · show (Str.ofString (toString (n : Int))).length + 0 + 1 * 0 ≤ 16777216
        rw [str_int, tx_len]
        have z := num_60 hn
        unfold topL
        rw [if_neg (by omega)]
        show (numL (n : Int).natAbs).length + 0 + 1 * 0 ≤ 16777216
        rw [Int.natAbs_natCast]
        omega
      · have e : Txt.join (Str.ofString "") [Str.ofString (toString (n : Int))] = Tx (numL n) := by
          rw [TL.join_eq]
          show Str.ofString (toString (n : Int)) = _
          rw [str_int]
          unfold topL
          rw [if_neg (by omega), Int.natAbs_natCast]
          rfl
        rw [e]
        refine q _ fun b o h => ?_
        have nD := ne_of_none h hD
        have h1 : upd (upd H D (.lst [])) D (.lst ([] ++ [V.str (Str.ofString (toString (n : Int)))])) b = some o := by rw [upd_ne nD, upd_ne nD]; exact h
        rw [upd_ne (ne_of_none h1 hp)]
        exact h1
    · rintro σ G Q1 Q2 hq ⟨v, e1, i, j, e2, e3, c, i2, j2, e4, e5, b, e6, z⟩
      exact ⟨v, e1, i, j, e2, e3, c, i2, j2, e4, e5, b, e6, hq _ _ z⟩
/-- the text of a ratio -/
theorem scText : FnScope ["value", "top", "bottom", "sign", "text"] ["value"] (defScope s_ratio_text) := ⟨rfl, rfl, rfl, by decide +kernel, rfl, by decide +kernel, by decide +kernel⟩
/-- the text of a ratio of at least 0 -/
def rT (s : Int × Int) : Str := Tx (textL s.1 s.2)
def spRText (K : PySem.W.Frag) : Sp := fun vs H Q _ => ∃ (x : V) (s : Int × Int), vs = [x] ∧ Dp K H x (ratT s) ∧ Wd s ∧ ∀ H', Same H H' → Q (.str (rT s)) H'
theorem wd_60 {s : Int × Int} (h : Wd s) : s.1.natAbs < 10 ^ 60 ∧ s.2.natAbs < 10 ^ 60 := ⟨Nat.lt_of_lt_of_le h.a (by decide), Nat.lt_of_lt_of_le h.b (by decide)⟩
theorem fits_line {n : Nat} (h : n ≤ 1000) : n ≤ sizeLine := Nat.le_trans h (by decide)
theorem text_len {t b : Int} (h1 : t.natAbs < 10 ^ 60) (h2 : b.natAbs < 10 ^ 60) : (textL t b).length ≤ 122 := by
  unfold textL topL
  rw [List.length_append, List.length_append]
  have l1 := num_60 h1
  have s1 : (if t < 0 then [45] else ([] : List Nat)).length ≤ 1 := by split <;> decide
  have l2 := num_60 h2
  have s2 : (if b = 1 then [] else 47 :: numL b.natAbs).length ≤ 61 := by
    split
    · exact Nat.zero_le _
    · rw [List.length_cons]; omega
  omega
theorem ok_rtext {f fT fF : Addr} {fd fdT fdF : FuncData} (F : Fun K "ratio_text" "ratio_text" s_ratio_text f fd) (ma : mg "abs" = none) (GT : FnOk P w K mg base CX0 3 fT fdT ["value"] (spRat K)) (mT : mg "ratio_of" = some (.ref fT)) (kT : PySem.W.keepIn K (.ref fT) = true) (bT : Binds K fdT ["value"] [])
    (GF : FnOk P w K mg base CX0 1 fF fdF ["number"] spFig) (mF : mg "_figures" = some (.ref fF)) (kF : PySem.W.keepIn K (.ref fF) = true) (bF : Binds K fdF ["number"] []) :
    FnOk P w K mg base CX0 4 f fd ["value"] (spRText K) := by
  refine F.ok scText (fun vs H Q E h => ?_) (fun cdv A outer s H vs Q E hr h => ?_)
  · obtain ⟨x, s, rfl, _⟩ := h
    rfl
  · obtain ⟨x, ⟨t, b⟩, rfl, hx, r0, q⟩ := h
    have nd := scText.nd
    have hr1 : Room 1 _ := hr.mono (by decide)
    refine ⟨_, pss_cons (ps_asg (pe_call GT hr (by rfl) mT kT bT .nil pass0 (pa_cons (pv 0) pa_nil)) (pg_tup (by rfl) (pgs_cons (pg_name (i := 1) nd rfl (Or.inl rfl)) (pgs_cons (pg_name (i := 2) nd rfl (Or.inl rfl)) pgs_nil))))
      (C8.pss_cut (ps_set (i := 3) nd rfl (Or.inl rfl) (pe_ifExp (pt_cmpR op_lt (pv 1) pe_int (nomark _)) pe_str pe_str))
      (pss_cons (ps_set (i := 4) nd rfl (Or.inl rfl) (pe_op op_add_str (pv 3) (pe_call GF hr1 (by rfl) mF kF bF .nil pass0 (pa_cons (pe_callB call_abs (by rfl) ma (by decide +kernel) (pa_cons (pv 1) pa_nil)) pa_nil))))
      (pss_cons (ps_if (pt_cmpR op_eq (pv 2) pe_int (nomark _)) (pss_one (ps_ret (pv 4))) pss_nil)
      (pss_one (ps_ret (pe_op op_add_str (pe_op op_add_str (pv 4) pe_str) (pe_call GF hr1 (by rfl) mF kF bF .nil pass0 (pa_cons (pv 2) pa_nil)))))))), ?_⟩
    obtain ⟨b1, b2⟩ : t.natAbs < 10 ^ 60 ∧ b.natAbs < 10 ^ 60 := wd_60 r0
    have hp : 0 < b := rat_pos r0.rat
    refine ⟨_, rfl, x, _, rfl, hx, okR_of r0.rat, fun T H1 sm1 hT => ?_⟩
    have hT' : SqT K H1 T [.int t, .int b] := hT
    refine ⟨T, _, rfl, hT', rfl, _, _, rfl, _, _, rfl, rfl, ?_⟩
    have et : topL t = (if t < 0 then [45] else []) ++ numL t.natAbs := rfl
    have s1 : (if t < 0 then [45] else ([] : List Nat)).length ≤ 1 := by split <;> decide
    refine ⟨fun σ G => σ = [some x, some (.int t), some (.int b), some (.str (Tx (if t < 0 then [45] else []))), none] ∧ G = H1, ?_, ?_⟩
    · refine ⟨_, rfl, _, _, rfl, rfl, _, rfl, ite2 (fun h => ?_) (fun h => ?_)⟩
      · have h : t < 0 := of_decide_eq_true h
        refine ⟨?_, rfl⟩
        rw [if_pos h]
        rfl
      · have h : ¬ t < 0 := fun z => h (decide_eq_true z)
        refine ⟨?_, rfl⟩
        rw [if_neg h]
        rfl
    · rintro σ G ⟨rfl, rfl⟩
      have ab : (if t < 0 then -t else t) = (t.natAbs : Int) := by
        split <;> omega
      refine ⟨_, rfl, _, rfl, t, rfl, t.natAbs, by rw [ab]; rfl, b1, fun H2 sm2 => ?_⟩
      have l1 := num_60 b1
      have l2 := num_60 b2
      refine ⟨_, _, rfl, rfl, ?_, ?_⟩
      · refine fits_line ?_
        rw [tx_len, tx_len]
        omega
      rw [tx_app, ← et]
      refine ⟨_, rfl, rfl, _, rfl, ite2 (fun h => ?_) (fun h => ?_)⟩
      · have h : b = 1 := V.int.inj (of_decide_eq_true h)
        refine ⟨_, rfl, ?_⟩
        have e : textL t b = topL t := by
          unfold textL
          rw [if_pos h, List.append_nil]
        rw [← e]
        exact q _ (sm1.trans sm2)
      · have h : b ≠ 1 := fun z => h (decide_eq_true (by rw [z]))
        have lt : (topL t).length ≤ 61 := by rw [et, List.length_append]; omega
        refine ⟨_, rfl, _, _, rfl, rfl, ?_, _, rfl, b.natAbs, by rw [show ((b.natAbs : Nat) : Int) = b by omega]; rfl, b2, fun H3 sm3 => ?_⟩
        · refine fits_line ?_
          rw [tx_len]
          show _ + 1 ≤ 1000
          omega
        · have e1 : Tx (topL t) ++ (Str.ofString "/") = Tx (topL t ++ [47]) := tx_app _ [47]
          rw [e1]
          refine ⟨_, _, rfl, rfl, ?_, ?_⟩
          · refine fits_line ?_
            rw [tx_len, tx_len, List.length_append]
            simp; omega
          · rw [tx_app]
            have e : textL t b = topL t ++ [47] ++ numL b.natAbs := by
              unfold textL
              rw [if_neg h, List.append_assoc]
              rfl
            rw [← e]
            exact q _ ((sm1.trans sm2).trans sm3)
end
end Lw

set_option maxRecDepth 100000
set_option linter.unusedVariables false
set_option maxHeartbeats 2000000
namespace Lw
open PySem PySem.Spec PyProof.Rows L2 VG
open TL (numL)
theorem len_app (a b : Str) : (a ++ b).length = a.length + b.length := by
  unfold Str.length
  exact Array.size_append
section
variable {P : Program} {w : World} {K : PySem.W.Frag} {mg : Str → Option Value} {base : Heap}
/-! ### how the law tells a form -/
def spPairL (K : PySem.W.Frag) : Sp := fun vs H Q _ => ∃ (x : V) (s : Int × Int), vs = [x] ∧ Dp K H x (ratT s) ∧ Q x H
theorem scPairL : FnScope ["_law_value"] ["_law_value"] (defScope s__law_pair) := ⟨rfl, rfl, rfl, by decide +kernel, rfl, by decide +kernel, by decide +kernel⟩
theorem ok_pairL {f : Addr} {fd : FuncData} (F : Fun K "_law_pair" "_law_pair" s__law_pair f fd) (is : mg "isinstance" = none) (mi : mg "int" = none) : FnOk P w K mg base CX0 1 f fd ["_law_value"] (spPairL K) := by
  refine F.ok scPairL (fun vs H Q E h => ?_) (fun cdv A outer s H vs Q E hr h => ?_)
  · obtain ⟨x, s, rfl, _⟩ := h
    rfl
  · obtain ⟨x, s, rfl, hx, q⟩ := h
    refine ⟨_, pss_one (ps_ret (pe_ifExp (pt_val (pe_callB call_isi (by rfl) is (by decide +kernel) (pa_cons (pv 0) (pa_cons (pe_bltn (v := .ty "int") (by rfl) mi (by decide +kernel) rfl) pa_nil)))) (pe_tup (pa_cons (pv 0) (pa_cons pe_int pa_nil))) (pv 0))), ?_⟩
    obtain ⟨T, rfl, hT⟩ := rat_at hx
    exact ⟨_, rfl, _, _, _, _, false, rfl, .ty "int", tyx_tup hT, kit_ty (by decide +kernel), _, rfl, iteF ⟨_, rfl, q⟩⟩
def spTextL (K : PySem.W.Frag) : Sp := fun vs H Q _ => ∃ (x : V) (s : Int × Int), vs = [x] ∧ Dp K H x (ratT s) ∧ Wd s ∧ Q (.str (rT s)) H
theorem scTextL : FnScope ["_law_value", "_law_top", "_law_bottom"] ["_law_value"] (defScope s__law_text) := ⟨rfl, rfl, rfl, by decide +kernel, rfl, by decide +kernel, by decide +kernel⟩
theorem ok_textL {f fP : Addr} {fd fdP : FuncData} (F : Fun K "_law_text" "_law_text" s__law_text f fd) (is : mg "isinstance" = none) (ms : mg "str" = none)
    (GP : FnOk P w K mg base CX0 1 fP fdP ["_law_value"] (spPairL K)) (mP : mg "_law_pair" = some (.ref fP)) (kP : PySem.W.keepIn K (.ref fP) = true) (bP : Binds K fdP ["_law_value"] []) : FnOk P w K mg base CX0 2 f fd ["_law_value"] (spTextL K) := by
  refine F.ok scTextL (fun vs H Q E h => ?_) (fun cdv A outer s H vs Q E hr h => ?_)
  · obtain ⟨x, s, rfl, _⟩ := h
    rfl
  · obtain ⟨x, ⟨t, b⟩, rfl, hx, r0, q⟩ := h
    have nd := scTextL.nd
    refine ⟨_, pss_cons (ps_if (pt_val (pe_callB call_isi (by rfl) is (by decide +kernel) (pa_cons (pv 0) (pa_cons (pe_bltn (v := .ty "str") (by rfl) ms (by decide +kernel) rfl) pa_nil)))) (pss_one (ps_ret (pv 0))) pss_nil)
      (pss_cons (ps_asg (pe_call GP hr (by rfl) mP kP bP .nil pass0 (pa_cons (pv 0) pa_nil)) (pg_tup (by rfl) (pgs_cons (pg_name (i := 1) nd rfl (Or.inl rfl)) (pgs_cons (pg_name (i := 2) nd rfl (Or.inl rfl)) pgs_nil))))
      (pss_one (ps_ret (pe_ifExp (pt_cmpR op_eq (pv 2) pe_int (nomark _)) (pe_callTy call_str_int (by rfl) ms (by decide +kernel) (pa_cons (pv 1) pa_nil))
        (pe_op op_add_str (pe_op op_add_str (pe_callTy call_str_int (by rfl) ms (by decide +kernel) (pa_cons (pv 1) pa_nil)) pe_str) (pe_callTy call_str_int (by rfl) ms (by decide +kernel) (pa_cons (pv 2) pa_nil))))))), ?_⟩
    obtain ⟨T, rfl, hT⟩ := rat_at hx
    have hT : SqT K H T [.int t, .int b] := hT
    obtain ⟨b1, b2⟩ : t.natAbs < 10 ^ 60 ∧ b.natAbs < 10 ^ 60 := wd_60 r0
    have hp : 0 < b := (rat_pos r0.rat)
    have lg : ∀ {i : Int}, i.natAbs < 10 ^ 60 → i.natAbs.log2 < 1920 := fun {i} h => by
      have z := log_60 h
      rw [Int.natAbs_natCast] at z
      exact z
    refine ⟨_, rfl, _, _, _, _, false, rfl, .ty "str", tyx_tup hT, kit_ty (by decide +kernel), _, rfl, iteF ?_⟩
    refine ⟨_, rfl, _, (t, b), rfl, hx, T, _, rfl, hT, rfl, _, _, rfl, _, _, rfl, rfl, ?_⟩
    refine ⟨_, rfl, rfl, _, rfl, ite2 (fun h => ?_) (fun h => ?_)⟩
    · have h : b = 1 := V.int.inj (of_decide_eq_true h)
      refine ⟨_, rfl, t, rfl, lg b1, ?_⟩
      have e : rT (t, b) = Str.ofString (toString t) := by
        rw [str_int]
        unfold rT textL
        rw [if_pos h, List.append_nil]
      rw [e] at q
      exact q
    · have h : ¬ b = 1 := fun z => h (decide_eq_true (by rw [z]))
      have e : rT (t, b) = (Str.ofString (toString t) ++ (Str.ofString "/")) ++ Str.ofString (toString b) := by
        rw [str_int, str_int]
        have e1 : Tx (topL t) ++ (Str.ofString "/") = Tx (topL t ++ [47]) := tx_app _ [47]
        rw [e1, tx_app]
        unfold rT textL
        rw [if_neg h, List.append_assoc]
        have e2 : topL b = numL b.natAbs := by
          unfold topL
          rw [if_neg (by omega)]
          rfl
        rw [e2]
        rfl
      rw [e] at q
      have l1 : (Str.ofString (toString t)).length ≤ 61 := by
        rw [str_int, tx_len]
        unfold topL
        have s1 : (if t < 0 then [45] else ([] : List Nat)).length ≤ 1 := by split <;> decide
        have s2 := num_60 b1
        rw [List.length_append]
        omega
      have l2 : (Str.ofString (toString b)).length ≤ 60 := by
        rw [str_int, tx_len]
        unfold topL
        rw [if_neg (by omega)]
        exact num_60 b2
      have c1 : (Str.ofString "/").length = 1 := by decide +kernel
      refine ⟨_, rfl, t, rfl, lg b1, _, _, rfl, rfl, fits_line (by rw [c1]; omega), _, rfl, b, rfl, lg b2, _, _, rfl, rfl, fits_line (by rw [len_app, c1]; omega), q⟩

end
end Lw

set_option maxRecDepth 100000
set_option linter.unusedVariables false
set_option maxHeartbeats 4000000
namespace Lw
open PySem PySem.Spec PyProof.Rows L2 VG
/-! data that stand in the heap, unfrozen -/
mutual
inductive Dq : Hp → V → PyData → Prop where
  | non {H : Hp} : Dq H .non .none
  | bl {H : Hp} (b : Bool) : Dq H (.bl b) (.bool b)
  | int {H : Hp} (i : Int) : Dq H (.int i) (.int i)
  | str {H : Hp} (x : Str) : Dq H (.str x) (.str x)
  | lst {H : Hp} {a : Addr} {xs : List V} {ds : List PyData} : H a = some (.lst xs) → DqAll H xs ds → Dq H (.ref a) (.list ds)
  | tup {H : Hp} {a : Addr} {xs : List V} {ds : List PyData} : H a = some (.tup xs) → DqAll H xs ds → Dq H (.ref a) (.tuple ds)
inductive DqAll : Hp → List V → List PyData → Prop where
  | nil {H : Hp} : DqAll H [] []
  | cons {H : Hp} {v : V} {vs : List V} {d : PyData} {ds : List PyData} : Dq H v d → DqAll H vs ds → DqAll H (v :: vs) (d :: ds)
end
mutual
theorem Dq.same {H G : Hp} (s : Same H G) : ∀ {v : V} {d : PyData}, Dq H v d → Dq G v d
  | _, _, .non => .non
  | _, _, .bl b => .bl b
  | _, _, .int i => .int i
  | _, _, .str x => .str x
  | _, _, .lst h t => .lst (s _ _ h) (DqAll.same s t)
  | _, _, .tup h t => .tup (s _ _ h) (DqAll.same s t)
theorem DqAll.same {H G : Hp} (s : Same H G) : ∀ {vs : List V} {ds : List PyData}, DqAll H vs ds → DqAll G vs ds
  | _, _, .nil => .nil
  | _, _, .cons h t => .cons (Dq.same s h) (DqAll.same s t)
end
mutual
theorem Dq.dp {K : PySem.W.Frag} {H : Hp} : ∀ {v : V} {d : PyData}, Dq H v d → Dp K H v d
  | _, _, .non => .non
  | _, _, .bl b => .bl b
  | _, _, .int i => .int i
  | _, _, .str x => .str x
  | _, _, .lst h t => .lst (SqL.of h) (DqAll.dp t)
  | _, _, .tup h t => .tup (SqT.of h) (DqAll.dp t)
theorem DqAll.dp {K : PySem.W.Frag} {H : Hp} : ∀ {vs : List V} {ds : List PyData}, DqAll H vs ds → DpAll K H vs ds
  | _, _, .nil => .nil
  | _, _, .cons h t => .cons (Dq.dp h) (DqAll.dp t)
end
theorem DqAll.snoc {H : Hp} {y : V} {d : PyData} (h : Dq H y d) : ∀ {xs : List V} {ds : List PyData}, DqAll H xs ds → DqAll H (xs ++ [y]) (ds ++ [d])
  | _, _, .nil => .cons h .nil
  | _, _, .cons g t => .cons g (DqAll.snoc h t)
theorem DqAll.at' {H : Hp} : ∀ {xs : List V} {ds : List PyData} {i : Nat} {d : PyData}, DqAll H xs ds → ds[i]? = some d → ∃ x, xs[i]? = some x ∧ Dq H x d
  | _, _, 0, _, .cons h _, e => by
    cases e
    exact ⟨_, rfl, h⟩
  | _, _, i + 1, _, .cons _ t, e => DqAll.at' (i := i) t e
theorem DqAll.len {H : Hp} : ∀ {xs : List V} {ds : List PyData}, DqAll H xs ds → xs.length = ds.length
  | _, _, .nil => rfl
  | _, _, .cons _ t => congrArg (· + 1) (DqAll.len t)
theorem dq_flat {K : PySem.W.Frag} {H G : Hp} {x : V} {d : PyData} (h : Dp K H x d) (n1 : ∀ ds, d ≠ .list ds) (n2 : ∀ ds, d ≠ .tuple ds) : Dq G x d := by
  cases h with
  | non => exact .non
  | bl b => exact .bl b
  | int i => exact .int i
  | str z => exact .str z
  | lst => exact absurd rfl (n1 _)
  | tup => exact absurd rfl (n2 _)
/-- while a list of copies grows at D: what is there -/
structure CopyQ (H : Hp) (D : Addr) (ds : List PyData) (i : Nat) (G : Hp) : Prop where
  ex : ∃ acc, G D = some (.lst acc) ∧ acc.length = i ∧ DqAll (newer (upd H D (.lst [])) G) acc (ds.take i)
  same : Same H G
theorem CopyQ.start {H : Hp} {D : Addr} {ds : List PyData} (hD : H D = none) : CopyQ H D ds 0 (upd H D (.lst [])) :=
  ⟨⟨[], upd_same, rfl, .nil⟩, fun b o e => by rw [upd_ne (ne_of_none e hD)]; exact e⟩
theorem CopyQ.more {H G G' : Hp} {D : Addr} {ds : List PyData} {i : Nat} {d : PyData} {y : V} (hD : H D = none) (c : CopyQ H D ds i G) (hd : ds[i]? = some d) (s : Same G G') (hy : Dq (newer G G') y d) :
    ∃ acc, G' D = some (.lst acc) ∧ acc.length = i ∧ CopyQ H D ds (i + 1) (upd G' D (.lst (acc ++ [y]))) := by
  obtain ⟨⟨acc, ea, el, ed⟩, sm⟩ := c
  have off : ∀ {b : Addr} {u : HO}, b ≠ D → upd G' D u b = G' b := fun h => upd_ne h
  refine ⟨acc, s _ _ ea, el, ⟨acc ++ [y], upd_same, by rw [List.length_append, el]; rfl, ?_⟩, fun b o e => by rw [off (ne_of_none e hD)]; exact s _ _ (sm _ _ e)⟩
  have et : ds.take (i + 1) = ds.take i ++ [d] := by
    rw [List.take_add_one, hd]
    rfl
  rw [et]
  refine DqAll.snoc (Dq.same (newer_mono (fun b z => ?_) fun b z o e => ?_) hy) (DqAll.same (newer_mono (fun b z => z) fun b z o e => ?_) ed)
  · have n : b ≠ D := fun q => by
      rw [q, ea] at z
      cases z
    rw [upd_ne n]
    cases q : H b with
    | none => rfl
    | some o =>
      rw [sm b o q] at z
      cases z
  · have n : b ≠ D := fun q => by
      rw [q, upd_same] at z
      cases z
    rw [off n]
    exact e
  · have n : b ≠ D := fun q => by
      rw [q, upd_same] at z
      cases z
    rw [off n]
    exact s _ _ e
theorem CopyQ.all {H G : Hp} {D : Addr} {ds : List PyData} (hD : H D = none) (c : CopyQ H D ds ds.length G) : ∃ acc, G D = some (.lst acc) ∧ DqAll (newer H G) acc ds := by
  obtain ⟨⟨acc, ea, _, ed⟩, sm⟩ := c
  rw [List.take_length] at ed
  refine ⟨acc, ea, DqAll.same (newer_mono (fun b z => ?_) fun b _ o e => e) ed⟩
  by_cases n : b = D
  · rw [n]
    exact hD
  · rw [upd_ne n] at z
    exact z
/-- copied(x): the same data on new addresses, unfrozen -/
def spCopyQ (K : PySem.W.Frag) (n : Nat) : Sp := fun vs H Q _ => ∃ (x : V) (d : PyData), vs = [x] ∧ Dp K H x d ∧ fit n d = true ∧ ∀ (y : V) (H' : Hp), Same H H' → Dq (newer H H') y d → Q y H'
def spPrevQ (K : PySem.W.Frag) : Nat → Sp
  | 0 => fun _ _ _ _ => False
  | n + 1 => spCopyQ K n
def spListedQ (K : PySem.W.Frag) (n : Nat) : Sp := fun vs H Q _ => ∃ (x : V) (d : PyData), vs = [x] ∧ Dp K H x d ∧ fit (n + 1) d = true ∧ ∀ (y : V) (H' : Hp), Same H H' → Dq (newer H H') y (listD d) → Q y H'
section
variable {P : Program} {w : World} {K : PySem.W.Frag} {mg : Str → Option Value} {base : Heap}
theorem copied_stepQ {n k : Nat} {f : Addr} {fd : FuncData} (F : Fun K "copied" "copied" s_copied f fd) (T : NmC mg) (mC : mg "copied" = some (.ref f)) (bC : Binds K fd ["value"] []) (G : FnOk P w K mg base CX0 k f fd ["value"] (spPrevQ K n)) :
    FnOk P w K mg base CX0 (k + 1) f fd ["value"] (spCopyQ K n) := by
  refine F.ok scCopied (fun vs H Q E h => ?_) (fun cdv A outer s H vs Q E hr h => ?_)
  · obtain ⟨x, d, rfl, _⟩ := h
    rfl
  · obtain ⟨x, d, rfl, hx, hf, q⟩ := h
    have nd := scCopied.nd
    refine ⟨_, pss_cons (ps_if (pt_val (pe_callB call_isi (by rfl) T.isi (by decide +kernel) (pa_cons (pv 0) (pa_cons (pe_bltn (v := .ty "list") (by rfl) T.list (by decide +kernel) rfl) pa_nil))))
        (pss_one (ps_ret (pe_lc (own := [("item", 1)]) (g := gName 1) (tt := tYes) rfl nd (pi_list (pv 0)) (blkOk_by (own := [("item", 1)]) (N := ["value", "item"]) (sc := defScope s_copied) (by decide +kernel)) (fun _ _ _ _ _ => pg_name (i := 1) nd rfl (Or.inl rfl)) (fun _ _ _ _ _ => pts_nil)
          (fun _ _ _ _ _ => pe_call G hr (by rfl) mC F.kp bC .nil pass0 (pa_cons (pv 1) pa_nil))))) pss_nil)
      (pss_cons (ps_if (pt_val (pe_callB call_isi (by rfl) T.isi (by decide +kernel) (pa_cons (pv 0) (pa_cons (pe_bltn (v := .ty "tuple") (by rfl) T.tup (by decide +kernel) rfl) pa_nil))))
        (pss_one (ps_ret (pe_callTy call_tuple_of (by rfl) T.tup (by decide +kernel) (pa_cons (pe_lc (own := [("item", 1)]) (g := gName 1) (tt := tYes) rfl nd (pi_tup (pv 0)) (blkOk_by (own := [("item", 1)]) (N := ["value", "item"]) (sc := defScope s_copied) (by decide +kernel)) (fun _ _ _ _ _ => pg_name (i := 1) nd rfl (Or.inl rfl)) (fun _ _ _ _ _ => pts_nil)
          (fun _ _ _ _ _ => pe_call G hr (by rfl) mC F.kp bC .nil pass0 (pa_cons (pv 1) pa_nil))) pa_nil)))) pss_nil)
      (pss_one (ps_ret (pv 0)))), ?_⟩
    cases hx with
    | non => exact ⟨_, rfl, _, _, _, _, false, rfl, .ty "list", .base .non, kit_ty (by decide +kernel), _, rfl, iteF ⟨_, rfl, _, _, _, _, false, rfl, .ty "tuple", .base .non, kit_ty (by decide +kernel), _, rfl, iteF ⟨_, rfl, q _ H (Same.refl H) .non⟩⟩⟩
    | bl b => exact ⟨_, rfl, _, _, _, _, false, rfl, .ty "list", .base (.bl b), kit_ty (by decide +kernel), _, rfl, iteF ⟨_, rfl, _, _, _, _, false, rfl, .ty "tuple", .base (.bl b), kit_ty (by decide +kernel), _, rfl, iteF ⟨_, rfl, q _ H (Same.refl H) (.bl b)⟩⟩⟩
    | int i => exact ⟨_, rfl, _, _, _, _, false, rfl, .ty "list", .base (.int i), kit_ty (by decide +kernel), _, rfl, iteF ⟨_, rfl, _, _, _, _, false, rfl, .ty "tuple", .base (.int i), kit_ty (by decide +kernel), _, rfl, iteF ⟨_, rfl, q _ H (Same.refl H) (.int i)⟩⟩⟩
    | str z => exact ⟨_, rfl, _, _, _, _, false, rfl, .ty "list", .base (.str z), kit_ty (by decide +kernel), _, rfl, iteF ⟨_, rfl, _, _, _, _, false, rfl, .ty "tuple", .base (.str z), kit_ty (by decide +kernel), _, rfl, iteF ⟨_, rfl, q _ H (Same.refl H) (.str z)⟩⟩⟩
    | @lst a xs ds hs hd =>
      refine ⟨_, rfl, _, _, _, _, true, rfl, .ty "list", tyx_list hs, kit_ty (by decide +kernel), _, rfl, iteT ?_⟩
      obtain ⟨m, rfl, hw, hl⟩ : ∃ m, n = m + 1 ∧ ds.length ≤ 1000 ∧ ∀ d ∈ ds, fit m d = true := by
        cases n with
        | zero => cases hf
        | succ m =>
          obtain ⟨h1, h2⟩ := Bool.and_eq_true_iff.mp (show (decide (ds.length ≤ 1000) && ds.all (fit m)) = true from hf)
          exact ⟨m, rfl, of_decide_eq_true h1, List.all_eq_true.mp h2⟩
      refine ⟨_, rfl, a, rfl, ⟨_, hs⟩, fun D hD => lc_list (K := K) (a := a) (xs := xs) (CopyQ H D ds) (CopyQ.start hD) (fun i G _ c => c.same.seq hs) (fun i y G hy c => ?_) (fun G c => ?_)⟩
      · obtain ⟨e, he, hye⟩ := DpAll.at' hd hy
        refine ⟨rfl, y, rfl, y, e, rfl, Dp.same c.same e y hye, hl e (List.mem_of_getElem? he), fun y' G' sm hn => ?_⟩
        obtain ⟨acc, e1, e2, e3⟩ := c.more hD he sm hn
        have lt : i < ds.length := (List.getElem?_eq_some_iff.mp he).1
        exact ⟨acc, e1, by rw [e2]; exact Nat.lt_of_lt_of_le (Nat.lt_of_lt_of_le lt hw) (by decide), e3⟩
      · rw [DpAll.len hd] at c
        obtain ⟨acc, e1, e2⟩ := c.all hD
        exact q _ G c.same (.lst (by rw [newer_at hD]; exact e1) e2)
    | @tup a xs ds hs hd =>
      refine ⟨_, rfl, _, _, _, _, false, rfl, .ty "list", tyx_tup hs, kit_ty (by decide +kernel), _, rfl, iteF ⟨_, rfl, _, _, _, _, true, rfl, .ty "tuple", tyx_tup hs, kit_ty (by decide +kernel), _, rfl, iteT ?_⟩⟩
      obtain ⟨m, rfl, hw, hl⟩ : ∃ m, n = m + 1 ∧ ds.length ≤ 1000 ∧ ∀ d ∈ ds, fit m d = true := by
        cases n with
        | zero => cases hf
        | succ m =>
          obtain ⟨h1, h2⟩ := Bool.and_eq_true_iff.mp (show (decide (ds.length ≤ 1000) && ds.all (fit m)) = true from hf)
          exact ⟨m, rfl, of_decide_eq_true h1, List.all_eq_true.mp h2⟩
      refine ⟨_, rfl, a, rfl, ⟨_, hs⟩, fun D hD => lc_tup (K := K) (a := a) (xs := xs) (CopyQ H D ds) (CopyQ.start hD) (fun i G _ c => Same.tup c.same hs) (fun i y G hy c => ?_) (fun G c => ?_)⟩
      · obtain ⟨e, he, hye⟩ := DpAll.at' hd hy
        refine ⟨rfl, y, rfl, y, e, rfl, Dp.same c.same e y hye, hl e (List.mem_of_getElem? he), fun y' G' sm hn => ?_⟩
        obtain ⟨acc, e1, e2, e3⟩ := c.more hD he sm hn
        have lt : i < ds.length := (List.getElem?_eq_some_iff.mp he).1
        exact ⟨acc, e1, by rw [e2]; exact Nat.lt_of_lt_of_le (Nat.lt_of_lt_of_le lt hw) (by decide), e3⟩
      · rw [DpAll.len hd] at c
        obtain ⟨acc, e1, e2⟩ := c.all hD
        refine ⟨D, acc, rfl, .inl ⟨SqL.of e1, fun l hl => ?_⟩⟩
        have sm := same_upd (o := .tup acc) hl
        have hl0 : H l = none := c.same.free hl
        refine q _ _ (c.same.trans sm) (.tup (by rw [newer_at hl0]; exact upd_same) (DqAll.same (newer_mono (fun b z => z) fun b z o e => sm b o e) e2))
/-- copied, for data of any depth -/
theorem ok_copiedQ {f : Addr} {fd : FuncData} (F : Fun K "copied" "copied" s_copied f fd) (T : NmC mg) (mC : mg "copied" = some (.ref f)) (bC : Binds K fd ["value"] []) : ∀ n, FnOk P w K mg base CX0 (n + 1) f fd ["value"] (spCopyQ K n)
  | 0 => copied_stepQ F T mC bC ⟨fun _ _ _ _ h => False.elim h, fun _ _ _ _ _ _ _ _ _ _ _ _ _ h => False.elim h⟩
  | n + 1 => copied_stepQ F T mC bC (ok_copiedQ F T mC bC n)
theorem ok_listedQ {n : Nat} {f fC : Addr} {fd fdC : FuncData} (F : Fun K "listed" "listed" s_listed f fd) (T : NmC mg) (GC : FnOk P w K mg base CX0 (n + 1) fC fdC ["value"] (spCopyQ K n)) (mC : mg "copied" = some (.ref fC)) (kC : PySem.W.keepIn K (.ref fC) = true) (bC : Binds K fdC ["value"] []) :
    FnOk P w K mg base CX0 (n + 2) f fd ["value"] (spListedQ K n) := by
  refine F.ok scListed (fun vs H Q E h => ?_) (fun cdv A outer s H vs Q E hr h => ?_)
  · obtain ⟨x, d, rfl, _⟩ := h
    rfl
  · obtain ⟨x, d, rfl, hx, hf, q⟩ := h
    have nd := scListed.nd
    have two : (2 : Nat) ≤ sizeLine := by decide
    cases hq : isSeq d with
    | false =>
      refine ⟨_, pss_cons (ps_if (pt_val (pe_callB call_isiT (by rfl) T.isi (by decide +kernel) (pa_cons (pv 0) (pa_cons (pe_tup (pa_cons (pe_bltn (v := .ty "list") (by rfl) T.list (by decide +kernel) rfl) (pa_cons (pe_bltn (v := .ty "tuple") (by rfl) T.tup (by decide +kernel) rfl) pa_nil))) pa_nil))))
          (pss_one (ps_ret (pe_lc (own := [("item", 1)]) (g := gName 1) (tt := tYes) rfl nd (pi_list (pv 0)) (blkOk_by (own := [("item", 1)]) (N := ["value", "item"]) (sc := defScope s_listed) (by decide +kernel)) (fun _ _ _ _ _ => pg_name (i := 1) nd rfl (Or.inl rfl)) (fun _ _ _ _ _ => pts_nil)
            (fun _ _ _ _ _ => pe_call GC hr (by rfl) mC kC bC .nil pass0 (pa_cons (pv 1) pa_nil))))) pss_nil)
        (pss_one (ps_ret (pv 0))), ?_⟩
      refine ⟨_, rfl, two, fun T hT => ⟨_, T, _, _, _, _, rfl, upd_same, clsv2, Dp.tyx (Dp.same (same_upd hT) _ _ hx), kit_seq hx, _, rfl, ?_⟩⟩
      rw [hq]
      refine iteF ⟨_, rfl, q _ _ (same_upd hT) ?_⟩
      have e : listD d = d := by cases d <;> first | rfl | cases hq
      rw [e]
      exact dq_flat hx (fun ds z => by rw [z] at hq; cases hq) (fun ds z => by rw [z] at hq; cases hq)
    | true =>
      cases hx with
      | non => cases hq
      | bl _ => cases hq
      | int _ => cases hq
      | str _ => cases hq
      | @lst a xs ds hs hd =>
        refine ⟨_, pss_cons (ps_if (pt_val (pe_callB call_isiT (by rfl) T.isi (by decide +kernel) (pa_cons (pv 0) (pa_cons (pe_tup (pa_cons (pe_bltn (v := .ty "list") (by rfl) T.list (by decide +kernel) rfl) (pa_cons (pe_bltn (v := .ty "tuple") (by rfl) T.tup (by decide +kernel) rfl) pa_nil))) pa_nil))))
            (pss_one (ps_ret (pe_lc (own := [("item", 1)]) (g := gName 1) (tt := tYes) rfl nd (pi_list (pv 0)) (blkOk_by (own := [("item", 1)]) (N := ["value", "item"]) (sc := defScope s_listed) (by decide +kernel)) (fun _ _ _ _ _ => pg_name (i := 1) nd rfl (Or.inl rfl)) (fun _ _ _ _ _ => pts_nil)
              (fun _ _ _ _ _ => pe_call GC hr (by rfl) mC kC bC .nil pass0 (pa_cons (pv 1) pa_nil))))) pss_nil)
          (pss_one (ps_ret (pv 0))), ?_⟩
        refine ⟨_, rfl, two, fun T hT => ⟨_, T, _, _, _, _, rfl, upd_same, clsv2, Dp.tyx (Dp.same (same_upd hT) _ _ (Dp.lst hs hd)), kit_seq (Dp.lst hs hd), _, rfl, iteT ?_⟩⟩
        have mT := same_upd (o := .tup [.ty "list", .ty "tuple"]) hT
        obtain ⟨hw, hl⟩ : ds.length ≤ 1000 ∧ ∀ d ∈ ds, fit n d = true := by
          obtain ⟨h1, h2⟩ := Bool.and_eq_true_iff.mp (show (decide (ds.length ≤ 1000) && ds.all (fit n)) = true from hf)
          exact ⟨of_decide_eq_true h1, List.all_eq_true.mp h2⟩
        have hd1 := DpAll.same mT _ _ hd
        refine ⟨_, rfl, a, rfl, ⟨_, mT.seq hs⟩, fun D hD => lc_list (K := K) (a := a) (xs := xs) (CopyQ _ D ds) (CopyQ.start hD) (fun i G _ c => c.same.seq (mT.seq hs)) (fun i y G hy c => ?_) (fun G c => ?_)⟩
        · obtain ⟨e, he, hye⟩ := DpAll.at' hd1 hy
          refine ⟨rfl, y, rfl, y, e, rfl, Dp.same c.same e y hye, hl e (List.mem_of_getElem? he), fun y' G' sm hn => ?_⟩
          obtain ⟨acc, e1, e2, e3⟩ := c.more hD he sm hn
          have lt : i < ds.length := (List.getElem?_eq_some_iff.mp he).1
          exact ⟨acc, e1, by rw [e2]; exact Nat.lt_of_lt_of_le (Nat.lt_of_lt_of_le lt hw) (by decide), e3⟩
        · rw [DpAll.len hd] at c
          obtain ⟨acc, e1, e2⟩ := c.all hD
          have sub := newer_mono (H := upd H T (.tup [.ty "list", .ty "tuple"])) (H' := G) (G := H) (G' := G) (fun b z => upd_none z) fun b z o e => e
          exact q _ G (mT.trans c.same) (.lst (sub _ _ (by rw [newer_at hD]; exact e1)) (DqAll.same sub e2))
      | @tup a xs ds hs hd =>
        refine ⟨_, pss_cons (ps_if (pt_val (pe_callB call_isiT (by rfl) T.isi (by decide +kernel) (pa_cons (pv 0) (pa_cons (pe_tup (pa_cons (pe_bltn (v := .ty "list") (by rfl) T.list (by decide +kernel) rfl) (pa_cons (pe_bltn (v := .ty "tuple") (by rfl) T.tup (by decide +kernel) rfl) pa_nil))) pa_nil))))
            (pss_one (ps_ret (pe_lc (own := [("item", 1)]) (g := gName 1) (tt := tYes) rfl nd (pi_tup (pv 0)) (blkOk_by (own := [("item", 1)]) (N := ["value", "item"]) (sc := defScope s_listed) (by decide +kernel)) (fun _ _ _ _ _ => pg_name (i := 1) nd rfl (Or.inl rfl)) (fun _ _ _ _ _ => pts_nil)
              (fun _ _ _ _ _ => pe_call GC hr (by rfl) mC kC bC .nil pass0 (pa_cons (pv 1) pa_nil))))) pss_nil)
          (pss_one (ps_ret (pv 0))), ?_⟩
        refine ⟨_, rfl, two, fun T hT => ⟨_, T, _, _, _, _, rfl, upd_same, clsv2, Dp.tyx (Dp.same (same_upd hT) _ _ (Dp.tup hs hd)), kit_seq (Dp.tup hs hd), _, rfl, iteT ?_⟩⟩
        have mT := same_upd (o := .tup [.ty "list", .ty "tuple"]) hT
        obtain ⟨hw, hl⟩ : ds.length ≤ 1000 ∧ ∀ d ∈ ds, fit n d = true := by
          obtain ⟨h1, h2⟩ := Bool.and_eq_true_iff.mp (show (decide (ds.length ≤ 1000) && ds.all (fit n)) = true from hf)
          exact ⟨of_decide_eq_true h1, List.all_eq_true.mp h2⟩
        have hd1 := DpAll.same mT _ _ hd
        refine ⟨_, rfl, a, rfl, ⟨_, Same.tup mT hs⟩, fun D hD => lc_tup (K := K) (a := a) (xs := xs) (CopyQ _ D ds) (CopyQ.start hD) (fun i G _ c => Same.tup c.same (Same.tup mT hs)) (fun i y G hy c => ?_) (fun G c => ?_)⟩
        · obtain ⟨e, he, hye⟩ := DpAll.at' hd1 hy
          refine ⟨rfl, y, rfl, y, e, rfl, Dp.same c.same e y hye, hl e (List.mem_of_getElem? he), fun y' G' sm hn => ?_⟩
          obtain ⟨acc, e1, e2, e3⟩ := c.more hD he sm hn
          have lt : i < ds.length := (List.getElem?_eq_some_iff.mp he).1
          exact ⟨acc, e1, by rw [e2]; exact Nat.lt_of_lt_of_le (Nat.lt_of_lt_of_le lt hw) (by decide), e3⟩
        · rw [DpAll.len hd] at c
          obtain ⟨acc, e1, e2⟩ := c.all hD
          have sub := newer_mono (H := upd H T (.tup [.ty "list", .ty "tuple"])) (H' := G) (G := H) (G' := G) (fun b z => upd_none z) fun b z o e => e
          exact q _ G (mT.trans c.same) (.lst (sub _ _ (by rw [newer_at hD]; exact e1)) (DqAll.same sub e2))
end
end Lw

set_option maxRecDepth 100000
set_option linter.unusedVariables false
set_option maxHeartbeats 4000000
namespace Lw
open PySem PySem.Spec PyProof.Rows L2 VG
/-! the answers' classes: what their instances hold, and how they are made -/
abbrev aInit : Stmt := inClass s_Answer 1
abbrev aProb : Stmt := inClass s_Answer 2
abbrev aTold : Stmt := inClass s_Answer 3
abbrev aHolds : Stmt := inClass s_Answer 4
abbrev aBool : Stmt := inClass s_Answer 5
abbrev aRepr : Stmt := inClass s_Answer 6
abbrev sInit : Stmt := inClass s_Solved 1
abbrev sNumbers : Stmt := inClass s_Solved 2
abbrev sBool : Stmt := inClass s_Solved 4
abbrev bInit : Stmt := inClass s_Barred 1
abbrev bWeights : Stmt := inClass s_Barred 2
abbrev tInit : Stmt := inClass s_Top 1
abbrev tFactors : Stmt := inClass s_Top 2
abbrev tWeights : Stmt := inClass s_Top 3
abbrev tTold : Stmt := inClass s_Top 4
abbrev eInit : Stmt := inClass s_Endless 1
abbrev eFactors : Stmt := inClass s_Endless 2
abbrev eDirection : Stmt := inClass s_Endless 3
def fA (x : V) : List (Str × V) := putF "_problem" x []
def fS (x y : V) : List (Str × V) := putF "_values" y (fA x)
def fB (x y : V) : List (Str × V) := putF "_weights" y (fA x)
def fT (x y a b n : V) : List (Str × V) := putF "number" n (putF "_weights" b (putF "_factors" a (fS x y)))
def fE (x y a b : V) : List (Str × V) := putF "_direction" b (putF "_factors" a (fS x y))
/-- one of the five classes -/
structure AnC (K : PySem.W.Frag) (C : Addr) : Prop where
  cl : Cls K C
  nP : NoAttr K C "_problem"
  nV : NoAttr K C "_values"
  nW : NoAttr K C "_weights"
  nF : NoAttr K C "_factors"
  nD : NoAttr K C "_direction"
  nN : NoAttr K C "number"
/-- H' is H but at p, where an object stands before and behind -/
structure Bat (p : Addr) (H H' : Hp) : Prop where
  at_ : ∃ o, H p = some o
  to : ∃ o, H' p = some o
  ex : ∀ b o, b ≠ p → H b = some o → H' b = some o
theorem Bat.sm {p : Addr} {H G G' : Hp} (b : Bat p H G) (s : Same G G') : Bat p H G' := ⟨b.at_, by obtain ⟨o, h⟩ := b.to; exact ⟨o, s _ _ h⟩, fun c o n h => s _ _ (b.ex c o n h)⟩
theorem Bat.put {p : Addr} {H G : Hp} {o : HO} (b : Bat p H G) : Bat p H (upd G p o) := ⟨b.at_, ⟨o, upd_same⟩, fun c u n h => by rw [upd_ne n]; exact b.ex c u n h⟩
theorem Bat.start {p : Addr} {H : Hp} {o u : HO} (h : H p = some u) : Bat p H (upd H p o) := ⟨⟨u, h⟩, ⟨o, upd_same⟩, fun c v n z => by rw [upd_ne n]; exact z⟩
theorem Bat.trans {p : Addr} {H G G' : Hp} (a : Bat p H G) (b : Bat p G G') : Bat p H G' := ⟨a.at_, b.to, fun c o n h => b.ex c o n (a.ex c o n h)⟩
theorem Bat.none {p : Addr} {H G : Hp} (b : Bat p H G) {c : Addr} (h : G c = Option.none) : H c = Option.none := by
  cases e : H c with
  | none => rfl
  | some o =>
    by_cases z : c = p
    · obtain ⟨u, hu⟩ := b.to
      rw [z, hu] at h
      cases h
    · rw [b.ex c o z e] at h
      cases h
theorem Bat.ne {p : Addr} {H G : Hp} (b : Bat p H G) {c : Addr} (h : H c = Option.none) : c ≠ p := fun z => by
  obtain ⟨u, hu⟩ := b.at_
  rw [z, hu] at h
  cases h
/-- what is new stays, and is new -/
theorem Bat.left {p : Addr} {H G G' : Hp} (a : Bat p H G) (b : Bat p G G') {v : V} {d : PyData} (h : Dq (newer H G) v d) : Dq (newer H G') v d :=
  Dq.same (newer_mono (fun c z => z) fun c z o e => b.ex c o (a.ne z) e) h
theorem Bat.right {p : Addr} {H G G' : Hp} (a : Bat p H G) {v : V} {d : PyData} (h : Dq (newer G G') v d) : Dq (newer H G') v d :=
  Dq.same (newer_mono (fun c z => a.none z) fun c z o e => e) h
theorem Bat.put_new {p : Addr} {H G : Hp} {o : HO} (a : Bat p H G) {v : V} {d : PyData} (h : Dq (newer H G) v d) : Dq (newer H (upd G p o)) v d :=
  Dq.same (newer_mono (fun c z => z) fun c z u e => by rw [upd_ne (a.ne z)]; exact e) h
theorem Bat.dp {p C dx : Addr} {H G : Hp} {fs : List (Str × V)} {K : PySem.W.Frag} (hp : H p = some (.ins C dx fs)) (b : Bat p H G) {v : V} {d : PyData} (h : Dp K H v d) : Dp K G v d := by
  obtain ⟨o, ho⟩ := b.to
  have e : Same (upd H p o) G := fun c u z => by
    by_cases n : c = p
    · rw [n, upd_same] at z
      rw [n, ho, z]
    · rw [upd_ne n] at z
      exact b.ex c u n z
  exact Dp.same e _ _ (Dp.offI hp h)
section
variable {P : Program} {w : World} {K : PySem.W.Frag} {mg : Str → Option Value} {base : Heap}
/-- Answer.__init__, for any of the classes -/
def spInitA (K : PySem.W.Frag) : Sp := fun vs H Q _ => ∃ (p C dx : Addr) (x : V), vs = [.ref p, x] ∧ H p = some (.ins C dx []) ∧ AnC K C ∧ Q .non (upd H p (.ins C dx (fA x)))
theorem scInitA : FnScope ["self", "problem"] ["self", "problem"] (defScope aInit) := ⟨rfl, rfl, rfl, by decide +kernel, rfl, by decide +kernel, by decide +kernel⟩
theorem ok_initA {f : Addr} {fd : FuncData} (F : Fun K "__init__" "Answer.__init__" aInit f fd) : FnOk P w K mg base CX0 1 f fd ["self", "problem"] (spInitA K) := by
  refine F.ok scInitA (fun vs H Q E h => ?_) (fun cdv A outer s H vs Q E hr h => ?_)
  · obtain ⟨p, C, dx, x, rfl, _⟩ := h
    rfl
  · obtain ⟨p, C, dx, x, rfl, hp, c, q⟩ := h
    exact ⟨_, pss_one (ps_fld (pv 0) (pv 1) rfl), _, rfl, _, rfl, p, C, dx, [], rfl, hp, c.cl, c.nP, by show 0 < 1000; decide, q⟩
/-- the rest: a problem and values handed up, then other data copied -/
def spInitS (K : PySem.W.Frag) (CS gA : Addr) : Sp := fun vs H Q _ => ∃ (p C dx : Addr) (x y : V) (d : PyData), vs = [.ref p, x, y] ∧ H p = some (.ins C dx []) ∧ AnC K C ∧ SubOf K CS C gA ∧ Dp K H y d ∧ fit 2 d = true ∧
  ∀ (v : V) (H' : Hp), H' p = some (.ins C dx (fS x v)) → Bat p H H' → Dq (newer H H') v d → Q .non H'
theorem scInitS : IniScope ["self", "problem", "values"] (defScope sInit) := ⟨rfl, rfl, rfl, by decide +kernel, by decide +kernel, by decide +kernel, by decide +kernel, rfl, rfl⟩
theorem ok_initS {f cc cda fC gA CS : Addr} {fd fdC : FuncData} (T : SubTxt P K mg CS f cc cda "Solved.__init__" (defArgs sInit) (defBody sInit) (defScope sInit) fd)
    (GB : FnR P w K mg base CX0 1 gA (spInitA K)) (GC : FnOk P w K mg base CX0 3 fC fdC ["value"] (spCopyQ K 2)) (mC : mg "copied" = some (.ref fC)) (kC : PySem.W.keepIn K (.ref fC) = true) (bC : Binds K fdC ["value"] []) :
    FnOk P w K mg base CX0 4 f fd ["self", "problem", "values"] (spInitS K CS gA) := by
  refine sup_ok (fun env => ⟨_, rfl⟩) T scInitS rfl rfl (fun _ => rfl) (fun _ => rfl) GB (by decide) (fun vs H Q E h => ?_) (fun A outer s H vs Q E hr h => ?_)
  · obtain ⟨p, C, dx, x, y, d, rfl, _⟩ := h
    rfl
  · obtain ⟨p, C, dx, x, y, d, rfl, hp, c, so, hy, fy, q⟩ := h
    refine ⟨p, _, C, dx, [], rfl, hp, so, _, _, pa_cons (pv 1) pa_nil, pss_one (ps_fld (pv 0) (pe_call GC hr (by rfl) mC kC bC .nil pass0 (pa_cons (pv 2) pa_nil)) rfl), ?_⟩
    have b1 : Bat p H (upd H p (.ins C dx (fA x))) := Bat.start hp
    refine ⟨_, rfl, p, C, dx, x, rfl, hp, c, ⟨_, rfl, y, d, rfl, b1.dp hp hy, fy, fun v H2 s2 hv => ⟨_, rfl, p, C, dx, _, rfl, s2 _ _ upd_same, c.cl, c.nV, by show 1 < 1000; decide, ?_⟩⟩⟩
    have b2 := b1.sm s2
    exact q v _ upd_same b2.put (b2.put_new (b1.right hv))
end
end Lw

set_option maxRecDepth 100000
set_option linter.unusedVariables false
set_option maxHeartbeats 4000000
namespace Lw
open PySem PySem.Spec PyProof.Rows L2 VG
theorem Bat.of {p : Addr} {H G : Hp} {o : HO} (h : H p = some o) (s : Same H G) : Bat p H G := ⟨⟨o, h⟩, ⟨o, s _ _ h⟩, fun c u _ z => s _ _ z⟩
section
variable {P : Program} {w : World} {K : PySem.W.Frag} {mg : Str → Option Value} {base : Heap}
def spInitB (K : PySem.W.Frag) (CB gA : Addr) : Sp := fun vs H Q _ => ∃ (p C dx : Addr) (x y : V) (d : PyData), vs = [.ref p, x, y] ∧ H p = some (.ins C dx []) ∧ AnC K C ∧ SubOf K CB C gA ∧ Dp K H y d ∧ fit 2 d = true ∧
  ∀ (v : V) (H' : Hp), H' p = some (.ins C dx (fB x v)) → Bat p H H' → Dq (newer H H') v d → Q .non H'
theorem scInitB : IniScope ["self", "problem", "weights"] (defScope bInit) := ⟨rfl, rfl, rfl, by decide +kernel, by decide +kernel, by decide +kernel, by decide +kernel, rfl, rfl⟩
theorem ok_initB {f cc cda fC gA CB : Addr} {fd fdC : FuncData} (T : SubTxt P K mg CB f cc cda "Barred.__init__" (defArgs bInit) (defBody bInit) (defScope bInit) fd)
    (GB : FnR P w K mg base CX0 1 gA (spInitA K)) (GC : FnOk P w K mg base CX0 3 fC fdC ["value"] (spCopyQ K 2)) (mC : mg "copied" = some (.ref fC)) (kC : PySem.W.keepIn K (.ref fC) = true) (bC : Binds K fdC ["value"] []) :
    FnOk P w K mg base CX0 4 f fd ["self", "problem", "weights"] (spInitB K CB gA) := by
  refine sup_ok (fun env => ⟨_, rfl⟩) T scInitB rfl rfl (fun _ => rfl) (fun _ => rfl) GB (by decide) (fun vs H Q E h => ?_) (fun A outer s H vs Q E hr h => ?_)
  · obtain ⟨p, C, dx, x, y, d, rfl, _⟩ := h
    rfl
  · obtain ⟨p, C, dx, x, y, d, rfl, hp, c, so, hy, fy, q⟩ := h
    refine ⟨p, _, C, dx, [], rfl, hp, so, _, _, pa_cons (pv 1) pa_nil, pss_one (ps_fld (pv 0) (pe_call GC hr (by rfl) mC kC bC .nil pass0 (pa_cons (pv 2) pa_nil)) rfl), ?_⟩
    have b1 : Bat p H (upd H p (.ins C dx (fA x))) := Bat.start hp
    refine ⟨_, rfl, p, C, dx, x, rfl, hp, c, ⟨_, rfl, y, d, rfl, b1.dp hp hy, fy, fun v H2 s2 hv => ⟨_, rfl, p, C, dx, _, rfl, s2 _ _ upd_same, c.cl, c.nW, by show 1 < 1000; decide, ?_⟩⟩⟩
    have b2 := b1.sm s2
    exact q v _ upd_same b2.put (b2.put_new (b1.right hv))
def spInitT (K : PySem.W.Frag) (CT CS gS gA : Addr) : Sp := fun vs H Q _ => ∃ (p C dx : Addr) (x y a b n : V) (d da db dn : PyData), vs = [.ref p, x, a, n, y, b] ∧ H p = some (.ins C dx []) ∧ AnC K C ∧ SubOf K CT C gS ∧ SubOf K CS C gA ∧ Dp K H y d ∧ fit 2 d = true ∧ Dp K H a da ∧ fit 2 da = true ∧ Dp K H b db ∧ fit 2 db = true ∧ Dp K H n dn ∧ fit 2 dn = true ∧
  ∀ (y' a' b' n' : V) (H' : Hp), H' p = some (.ins C dx (fT x y' a' b' n')) → Bat p H H' → Dq (newer H H') y' d → Dq (newer H H') a' da → Dq (newer H H') b' db → Dq (newer H H') n' dn → Q .non H'
theorem scInitT : IniScope ["self", "problem", "factors", "number", "values", "weights"] (defScope tInit) := ⟨rfl, rfl, rfl, by decide +kernel, by decide +kernel, by decide +kernel, by decide +kernel, rfl, rfl⟩
theorem ok_initT {f cc cda fC gS gA CT CS : Addr} {fd fdC : FuncData} (T : SubTxt P K mg CT f cc cda "Top.__init__" (defArgs tInit) (defBody tInit) (defScope tInit) fd)
    (GB : FnR P w K mg base CX0 4 gS (spInitS K CS gA)) (GC : FnOk P w K mg base CX0 3 fC fdC ["value"] (spCopyQ K 2)) (mC : mg "copied" = some (.ref fC)) (kC : PySem.W.keepIn K (.ref fC) = true) (bC : Binds K fdC ["value"] []) :
    FnOk P w K mg base CX0 5 f fd ["self", "problem", "factors", "number", "values", "weights"] (spInitT K CT CS gS gA) := by
  refine sup_ok (fun env => ⟨_, rfl⟩) T scInitT rfl rfl (fun _ => rfl) (fun _ => rfl) GB (by decide) (fun vs H Q E h => ?_) (fun A outer s H vs Q E hr h => ?_)
  · obtain ⟨p, C, dx, x, y, a, b, n, d, da, db, dn, rfl, _⟩ := h
    rfl
  · obtain ⟨p, C, dx, x, y, a, b, n, d, da, db, dn, rfl, hp, c, st, so, hy, fy, ha, fa, hb, fb, hn, fn, q⟩ := h
    have hr3 : Room 3 _ := hr.mono (by decide)
    refine ⟨p, _, C, dx, [], rfl, hp, st, _, _, pa_cons (pv 1) (pa_cons (pv 4) pa_nil), pss_cons (ps_fld (pv 0) (pe_call GC hr3 (by rfl) mC kC bC .nil pass0 (pa_cons (pv 2) pa_nil)) rfl) (pss_cons (ps_fld (pv 0) (pe_call GC hr3 (by rfl) mC kC bC .nil pass0 (pa_cons (pv 5) pa_nil)) rfl) (pss_one (ps_fld (pv 0) (pe_call GC hr3 (by rfl) mC kC bC .nil pass0 (pa_cons (pv 3) pa_nil)) rfl))), ?_⟩
    refine ⟨_, rfl, _, rfl, p, C, dx, x, y, d, rfl, hp, c, so, hy, fy, fun y' H1 e1 b1 n1 => ?_⟩
    refine ⟨_, rfl, a, da, rfl, b1.dp hp ha, fa, fun a' H2 s2 n2 => ⟨_, rfl, p, C, dx, _, rfl, s2 _ _ e1, c.cl, c.nF, by show 2 < 1000; decide, ?_⟩⟩
    have b2 := b1.sm s2
    have b2p := b2.put (o := .ins C dx (putF "_factors" a' (fS x y')))
    refine ⟨_, rfl, b, db, rfl, b2p.dp hp hb, fb, fun b' H3 s3 n3 => ⟨_, rfl, p, C, dx, _, rfl, s3 _ _ upd_same, c.cl, c.nW, by show 3 < 1000; decide, ?_⟩⟩
    have b3 := b2p.sm s3
    have b3p := b3.put (o := .ins C dx (putF "_weights" b' (putF "_factors" a' (fS x y'))))
    refine ⟨_, rfl, n, dn, rfl, b3p.dp hp hn, fn, fun n' H4 s4 n4 => ⟨_, rfl, p, C, dx, _, rfl, s4 _ _ upd_same, c.cl, c.nN, by show 4 < 1000; decide, ?_⟩⟩
    have b4 := b3p.sm s4
    have t12 : Bat p H1 (upd H4 p (.ins C dx (fT x y' a' b' n'))) := (((((Bat.of e1 s2).put).sm s3).put).sm s4).put
    have t23 : Bat p H2 (upd H4 p (.ins C dx (fT x y' a' b' n'))) := (((Bat.start (s2 _ _ e1)).sm s3).put.sm s4).put
    have t34 : Bat p H3 (upd H4 p (.ins C dx (fT x y' a' b' n'))) := ((Bat.start (s3 _ _ upd_same)).sm s4).put
    exact q y' a' b' n' _ upd_same b4.put (b1.left t12 n1) (b2.left t23 (b1.right n2)) (b3.left t34 (b2p.right n3)) (b4.put_new (b3p.right n4))
def spInitE (K : PySem.W.Frag) (CE CS gS gA : Addr) : Sp := fun vs H Q _ => ∃ (p C dx : Addr) (x y a b : V) (d da db : PyData), vs = [.ref p, x, a, y, b] ∧ H p = some (.ins C dx []) ∧ AnC K C ∧ SubOf K CE C gS ∧ SubOf K CS C gA ∧ Dp K H y d ∧ fit 2 d = true ∧ Dp K H a da ∧ fit 2 da = true ∧ Dp K H b db ∧ fit 2 db = true ∧
  ∀ (y' a' b' : V) (H' : Hp), H' p = some (.ins C dx (fE x y' a' b')) → Bat p H H' → Dq (newer H H') y' d → Dq (newer H H') a' da → Dq (newer H H') b' db → Q .non H'
theorem scInitE : IniScope ["self", "problem", "factors", "values", "direction"] (defScope eInit) := ⟨rfl, rfl, rfl, by decide +kernel, by decide +kernel, by decide +kernel, by decide +kernel, rfl, rfl⟩
theorem ok_initE {f cc cda fC gS gA CE CS : Addr} {fd fdC : FuncData} (T : SubTxt P K mg CE f cc cda "Endless.__init__" (defArgs eInit) (defBody eInit) (defScope eInit) fd)
    (GB : FnR P w K mg base CX0 4 gS (spInitS K CS gA)) (GC : FnOk P w K mg base CX0 3 fC fdC ["value"] (spCopyQ K 2)) (mC : mg "copied" = some (.ref fC)) (kC : PySem.W.keepIn K (.ref fC) = true) (bC : Binds K fdC ["value"] []) :
    FnOk P w K mg base CX0 5 f fd ["self", "problem", "factors", "values", "direction"] (spInitE K CE CS gS gA) := by
  refine sup_ok (fun env => ⟨_, rfl⟩) T scInitE rfl rfl (fun _ => rfl) (fun _ => rfl) GB (by decide) (fun vs H Q E h => ?_) (fun A outer s H vs Q E hr h => ?_)
  · obtain ⟨p, C, dx, x, y, a, b, d, da, db, rfl, _⟩ := h
    rfl
  · obtain ⟨p, C, dx, x, y, a, b, d, da, db, rfl, hp, c, st, so, hy, fy, ha, fa, hb, fb, q⟩ := h
    have hr3 : Room 3 _ := hr.mono (by decide)
    refine ⟨p, _, C, dx, [], rfl, hp, st, _, _, pa_cons (pv 1) (pa_cons (pv 3) pa_nil), pss_cons (ps_fld (pv 0) (pe_call GC hr3 (by rfl) mC kC bC .nil pass0 (pa_cons (pv 2) pa_nil)) rfl) (pss_one (ps_fld (pv 0) (pe_call GC hr3 (by rfl) mC kC bC .nil pass0 (pa_cons (pv 4) pa_nil)) rfl)), ?_⟩
    refine ⟨_, rfl, _, rfl, p, C, dx, x, y, d, rfl, hp, c, so, hy, fy, fun y' H1 e1 b1 n1 => ?_⟩
    refine ⟨_, rfl, a, da, rfl, b1.dp hp ha, fa, fun a' H2 s2 n2 => ⟨_, rfl, p, C, dx, _, rfl, s2 _ _ e1, c.cl, c.nF, by show 2 < 1000; decide, ?_⟩⟩
    have b2 := b1.sm s2
    have b2p := b2.put (o := .ins C dx (putF "_factors" a' (fS x y')))
    refine ⟨_, rfl, b, db, rfl, b2p.dp hp hb, fb, fun b' H3 s3 n3 => ⟨_, rfl, p, C, dx, _, rfl, s3 _ _ upd_same, c.cl, c.nD, by show 3 < 1000; decide, ?_⟩⟩
    have b3 := b2p.sm s3
    have t12 : Bat p H1 (upd H3 p (.ins C dx (fE x y' a' b'))) := (((Bat.of e1 s2).put).sm s3).put
    have t23 : Bat p H2 (upd H3 p (.ins C dx (fE x y' a' b'))) := ((Bat.start (s2 _ _ e1)).sm s3).put
    exact q y' a' b' _ upd_same b3.put (b1.left t12 n1) (b2.left t23 (b1.right n2)) (b3.put_new (b2p.right n3))
end
end Lw

set_option maxRecDepth 100000
set_option linter.unusedVariables false
set_option maxHeartbeats 4000000
namespace Lw
open PySem PySem.Spec PyProof.Rows L2 VG
/-! the answers' methods -/
theorem empty_app (x : Str) : Str.empty ++ x = x := by
  cases x with
  | mk c =>
    have h : (Str.empty ++ (⟨c⟩ : Str)) = ⟨#[] ++ c⟩ := rfl
    rw [h, Array.empty_append]
/-- an instance of one of the five classes -/
structure InsA (K : PySem.W.Frag) (H : Hp) (p C : Addr) (fs : List (Str × V)) : Prop where
  at_ : ∃ dx, H p = some (.ins C dx fs)
  c : AnC K C
section
variable {P : Program} {w : World} {K : PySem.W.Frag} {mg : Str → Option Value} {base : Heap}
def spProb (K : PySem.W.Frag) : Sp := fun vs H Q _ => ∃ (p C : Addr) (fs : List (Str × V)) (v : V), vs = [.ref p] ∧ InsA K H p C fs ∧ fs.lookup ("_problem" : Str) = some v ∧ Q v H
theorem scProb : FnScope ["self"] ["self"] (defScope aProb) := ⟨rfl, rfl, rfl, by decide +kernel, rfl, by decide +kernel, by decide +kernel⟩
theorem ok_prob {f : Addr} {fd : FuncData} (F : Fun K "problem" "Answer.problem" aProb f fd) : FnOk P w K mg base CX0 1 f fd ["self"] (spProb K) := by
  refine F.ok scProb (fun vs H Q E h => ?_) (fun cdv A outer s H vs Q E hr h => ?_)
  · obtain ⟨p, C, fs, v, rfl, _⟩ := h
    rfl
  · obtain ⟨p, C, fs, v, rfl, ⟨⟨dx, hp⟩, c⟩, hl, q⟩ := h
    exact ⟨_, pss_one (ps_ret (pe_fld (pv 0) rfl)), _, rfl, p, C, dx, _, _, rfl, hp, c.cl, c.nP, hl, q⟩
def spToldA (K : PySem.W.Frag) : Sp := fun vs H Q _ => ∃ (p C : Addr) (fs : List (Str × V)) (kd : Str) (u : Value), vs = [.ref p] ∧ InsA K H p C fs ∧ Con K C "KIND" (.str kd) u ∧ fs.lookup ("KIND" : Str) = none ∧ Q (.str kd) H
theorem scToldA : FnScope ["self"] ["self"] (defScope aTold) := ⟨rfl, rfl, rfl, by decide +kernel, rfl, by decide +kernel, by decide +kernel⟩
theorem ok_toldA {f : Addr} {fd : FuncData} (F : Fun K "told" "Answer.told" aTold f fd) : FnOk P w K mg base CX0 1 f fd ["self"] (spToldA K) := by
  refine F.ok scToldA (fun vs H Q E h => ?_) (fun cdv A outer s H vs Q E hr h => ?_)
  · obtain ⟨p, C, fs, kd, u, rfl, _⟩ := h
    rfl
  · obtain ⟨p, C, fs, kd, u, rfl, ⟨⟨dx, hp⟩, c⟩, hc, hl, q⟩ := h
    exact ⟨_, pss_one (ps_ret (pe_con (pv 0) rfl)), _, rfl, p, C, dx, _, _, u, rfl, hp, c.cl, hc, hl, q⟩
def spBoolC (b : Bool) : Sp := fun vs H Q _ => ∃ p : Addr, vs = [.ref p] ∧ Q (.bl b) H
theorem scHolds : FnScope ["self"] ["self"] (defScope aHolds) := ⟨rfl, rfl, rfl, by decide +kernel, rfl, by decide +kernel, by decide +kernel⟩
theorem ok_holdsA {f : Addr} {fd : FuncData} (F : Fun K "holds" "Answer.holds" aHolds f fd) : FnOk P w K mg base CX0 1 f fd ["self"] (spBoolC false) := by
  refine F.ok scHolds (fun vs H Q E h => ?_) (fun cdv A outer s H vs Q E hr h => ?_)
  · obtain ⟨p, rfl, _⟩ := h
    rfl
  · obtain ⟨p, rfl, q⟩ := h
    exact ⟨_, pss_one (ps_ret pe_bl), q⟩
theorem scBoolA : FnScope ["self"] ["self"] (defScope aBool) := ⟨rfl, rfl, rfl, by decide +kernel, rfl, by decide +kernel, by decide +kernel⟩
theorem ok_boolA {f : Addr} {fd : FuncData} (F : Fun K "__bool__" "Answer.__bool__" aBool f fd) : FnOk P w K mg base CX0 1 f fd ["self"] (spBoolC false) := by
  refine F.ok scBoolA (fun vs H Q E h => ?_) (fun cdv A outer s H vs Q E hr h => ?_)
  · obtain ⟨p, rfl, _⟩ := h
    rfl
  · obtain ⟨p, rfl, q⟩ := h
    exact ⟨_, pss_one (ps_ret pe_bl), q⟩
theorem scBoolS : FnScope ["self"] ["self"] (defScope sBool) := ⟨rfl, rfl, rfl, by decide +kernel, rfl, by decide +kernel, by decide +kernel⟩
theorem ok_boolS {f : Addr} {fd : FuncData} (F : Fun K "__bool__" "Solved.__bool__" sBool f fd) : FnOk P w K mg base CX0 1 f fd ["self"] (spBoolC true) := by
  refine F.ok scBoolS (fun vs H Q E h => ?_) (fun cdv A outer s H vs Q E hr h => ?_)
  · obtain ⟨p, rfl, _⟩ := h
    rfl
  · obtain ⟨p, rfl, q⟩ := h
    exact ⟨_, pss_one (ps_ret pe_bl), q⟩
/-- a field's data as a list -/
def spListF (K : PySem.W.Frag) (f : Str) : Sp := fun vs H Q _ => ∃ (p C : Addr) (fs : List (Str × V)) (v : V) (d : PyData), vs = [.ref p] ∧ InsA K H p C fs ∧ fs.lookup f = some v ∧ Dp K H v d ∧ fit 3 d = true ∧ ∀ z H', Same H H' → Dq (newer H H') z (listD d) → Q z H'
theorem sc_sNumbers : FnScope ["self"] ["self"] (defScope sNumbers) := ⟨rfl, rfl, rfl, by decide +kernel, rfl, by decide +kernel, by decide +kernel⟩
theorem ok_sNumbers {f fL : Addr} {fd fdL : FuncData} (F : Fun K "numbers" "Solved.numbers" sNumbers f fd) (GL : FnOk P w K mg base CX0 4 fL fdL ["value"] (spListedQ K 2)) (mL : mg "listed" = some (.ref fL)) (kL : PySem.W.keepIn K (.ref fL) = true) (bL : Binds K fdL ["value"] []) : FnOk P w K mg base CX0 5 f fd ["self"] (spListF K "_values") := by
  refine F.ok sc_sNumbers (fun vs H Q E h => ?_) (fun cdv A outer s H vs Q E hr h => ?_)
  · obtain ⟨p, C, fs, v, d, rfl, _⟩ := h
    rfl
  · obtain ⟨p, C, fs, v, d, rfl, ⟨⟨dx, hp⟩, c⟩, hl, hv, hf, q⟩ := h
    exact ⟨_, pss_one (ps_ret (pe_call GL hr (by rfl) mL kL bL .nil pass0 (pa_cons (pe_fld (pv 0) rfl) pa_nil))), _, rfl, p, C, dx, _, _, rfl, hp, c.cl, c.nV, hl, v, d, rfl, hv, hf, q⟩
theorem sc_bWeights : FnScope ["self"] ["self"] (defScope bWeights) := ⟨rfl, rfl, rfl, by decide +kernel, rfl, by decide +kernel, by decide +kernel⟩
theorem ok_bWeights {f fL : Addr} {fd fdL : FuncData} (F : Fun K "weights" "Barred.weights" bWeights f fd) (GL : FnOk P w K mg base CX0 4 fL fdL ["value"] (spListedQ K 2)) (mL : mg "listed" = some (.ref fL)) (kL : PySem.W.keepIn K (.ref fL) = true) (bL : Binds K fdL ["value"] []) : FnOk P w K mg base CX0 5 f fd ["self"] (spListF K "_weights") := by
  refine F.ok sc_bWeights (fun vs H Q E h => ?_) (fun cdv A outer s H vs Q E hr h => ?_)
  · obtain ⟨p, C, fs, v, d, rfl, _⟩ := h
    rfl
  · obtain ⟨p, C, fs, v, d, rfl, ⟨⟨dx, hp⟩, c⟩, hl, hv, hf, q⟩ := h
    exact ⟨_, pss_one (ps_ret (pe_call GL hr (by rfl) mL kL bL .nil pass0 (pa_cons (pe_fld (pv 0) rfl) pa_nil))), _, rfl, p, C, dx, _, _, rfl, hp, c.cl, c.nW, hl, v, d, rfl, hv, hf, q⟩
theorem sc_tFactors : FnScope ["self"] ["self"] (defScope tFactors) := ⟨rfl, rfl, rfl, by decide +kernel, rfl, by decide +kernel, by decide +kernel⟩
theorem ok_tFactors {f fL : Addr} {fd fdL : FuncData} (F : Fun K "factors" "Top.factors" tFactors f fd) (GL : FnOk P w K mg base CX0 4 fL fdL ["value"] (spListedQ K 2)) (mL : mg "listed" = some (.ref fL)) (kL : PySem.W.keepIn K (.ref fL) = true) (bL : Binds K fdL ["value"] []) : FnOk P w K mg base CX0 5 f fd ["self"] (spListF K "_factors") := by
  refine F.ok sc_tFactors (fun vs H Q E h => ?_) (fun cdv A outer s H vs Q E hr h => ?_)
  · obtain ⟨p, C, fs, v, d, rfl, _⟩ := h
    rfl
  · obtain ⟨p, C, fs, v, d, rfl, ⟨⟨dx, hp⟩, c⟩, hl, hv, hf, q⟩ := h
    exact ⟨_, pss_one (ps_ret (pe_call GL hr (by rfl) mL kL bL .nil pass0 (pa_cons (pe_fld (pv 0) rfl) pa_nil))), _, rfl, p, C, dx, _, _, rfl, hp, c.cl, c.nF, hl, v, d, rfl, hv, hf, q⟩
theorem sc_tWeights : FnScope ["self"] ["self"] (defScope tWeights) := ⟨rfl, rfl, rfl, by decide +kernel, rfl, by decide +kernel, by decide +kernel⟩
theorem ok_tWeights {f fL : Addr} {fd fdL : FuncData} (F : Fun K "weights" "Top.weights" tWeights f fd) (GL : FnOk P w K mg base CX0 4 fL fdL ["value"] (spListedQ K 2)) (mL : mg "listed" = some (.ref fL)) (kL : PySem.W.keepIn K (.ref fL) = true) (bL : Binds K fdL ["value"] []) : FnOk P w K mg base CX0 5 f fd ["self"] (spListF K "_weights") := by
  refine F.ok sc_tWeights (fun vs H Q E h => ?_) (fun cdv A outer s H vs Q E hr h => ?_)
  · obtain ⟨p, C, fs, v, d, rfl, _⟩ := h
    rfl
  · obtain ⟨p, C, fs, v, d, rfl, ⟨⟨dx, hp⟩, c⟩, hl, hv, hf, q⟩ := h
    exact ⟨_, pss_one (ps_ret (pe_call GL hr (by rfl) mL kL bL .nil pass0 (pa_cons (pe_fld (pv 0) rfl) pa_nil))), _, rfl, p, C, dx, _, _, rfl, hp, c.cl, c.nW, hl, v, d, rfl, hv, hf, q⟩
theorem sc_eFactors : FnScope ["self"] ["self"] (defScope eFactors) := ⟨rfl, rfl, rfl, by decide +kernel, rfl, by decide +kernel, by decide +kernel⟩
theorem ok_eFactors {f fL : Addr} {fd fdL : FuncData} (F : Fun K "factors" "Endless.factors" eFactors f fd) (GL : FnOk P w K mg base CX0 4 fL fdL ["value"] (spListedQ K 2)) (mL : mg "listed" = some (.ref fL)) (kL : PySem.W.keepIn K (.ref fL) = true) (bL : Binds K fdL ["value"] []) : FnOk P w K mg base CX0 5 f fd ["self"] (spListF K "_factors") := by
  refine F.ok sc_eFactors (fun vs H Q E h => ?_) (fun cdv A outer s H vs Q E hr h => ?_)
  · obtain ⟨p, C, fs, v, d, rfl, _⟩ := h
    rfl
  · obtain ⟨p, C, fs, v, d, rfl, ⟨⟨dx, hp⟩, c⟩, hl, hv, hf, q⟩ := h
    exact ⟨_, pss_one (ps_ret (pe_call GL hr (by rfl) mL kL bL .nil pass0 (pa_cons (pe_fld (pv 0) rfl) pa_nil))), _, rfl, p, C, dx, _, _, rfl, hp, c.cl, c.nF, hl, v, d, rfl, hv, hf, q⟩
theorem sc_eDirection : FnScope ["self"] ["self"] (defScope eDirection) := ⟨rfl, rfl, rfl, by decide +kernel, rfl, by decide +kernel, by decide +kernel⟩
theorem ok_eDirection {f fL : Addr} {fd fdL : FuncData} (F : Fun K "direction" "Endless.direction" eDirection f fd) (GL : FnOk P w K mg base CX0 4 fL fdL ["value"] (spListedQ K 2)) (mL : mg "listed" = some (.ref fL)) (kL : PySem.W.keepIn K (.ref fL) = true) (bL : Binds K fdL ["value"] []) : FnOk P w K mg base CX0 5 f fd ["self"] (spListF K "_direction") := by
  refine F.ok sc_eDirection (fun vs H Q E h => ?_) (fun cdv A outer s H vs Q E hr h => ?_)
  · obtain ⟨p, C, fs, v, d, rfl, _⟩ := h
    rfl
  · obtain ⟨p, C, fs, v, d, rfl, ⟨⟨dx, hp⟩, c⟩, hl, hv, hf, q⟩ := h
    exact ⟨_, pss_one (ps_ret (pe_call GL hr (by rfl) mL kL bL .nil pass0 (pa_cons (pe_fld (pv 0) rfl) pa_nil))), _, rfl, p, C, dx, _, _, rfl, hp, c.cl, c.nD, hl, v, d, rfl, hv, hf, q⟩
def spToldT (K : PySem.W.Frag) : Sp := fun vs H Q _ => ∃ (p C : Addr) (fs : List (Str × V)) (kd : Str) (u : Value) (n : V) (d : PyData), vs = [.ref p] ∧ InsA K H p C fs ∧ Con K C "KIND" (.str kd) u ∧ fs.lookup ("KIND" : Str) = none ∧ kd.length ≤ 20 ∧ fs.lookup ("number" : Str) = some n ∧ Dp K H n d ∧
  ((isRat d = false ∧ Q (.str kd) H) ∨ ∃ s, d = ratT s ∧ Wd s ∧ ∀ H', Same H H' → Q (.str ((kd ++ " ") ++ rT s)) H')
theorem scToldT : FnScope ["self"] ["self"] (defScope tTold) := ⟨rfl, rfl, rfl, by decide +kernel, rfl, by decide +kernel, by decide +kernel⟩
theorem ok_toldT {f fR fT : Addr} {fd fdR fdT : FuncData} (F : Fun K "told" "Top.told" tTold f fd) (GR : FnOk P w K mg base CX0 2 fR fdR ["value"] (spIsRat K)) (mR : mg "is_ratio" = some (.ref fR)) (kR : PySem.W.keepIn K (.ref fR) = true) (bR : Binds K fdR ["value"] [])
    (GT : FnOk P w K mg base CX0 4 fT fdT ["value"] (spRText K)) (mT : mg "ratio_text" = some (.ref fT)) (kT : PySem.W.keepIn K (.ref fT) = true) (bT : Binds K fdT ["value"] []) : FnOk P w K mg base CX0 5 f fd ["self"] (spToldT K) := by
  refine F.ok scToldT (fun vs H Q E h => ?_) (fun cdv A outer s H vs Q E hr h => ?_)
  · obtain ⟨p, C, fs, kd, u, n, d, rfl, _⟩ := h
    rfl
  · obtain ⟨p, C, fs, kd, u, n, d, rfl, ⟨⟨dx, hp⟩, c⟩, hc, hl, lk, hn, hd, q⟩ := h
    have hr2 : Room 2 _ := hr.mono (by decide)
    refine ⟨_, pss_cons (ps_if (pt_val (pe_call GR hr2 (by rfl) mR kR bR .nil pass0 (pa_cons (pe_fld (pv 0) rfl) pa_nil))) (pss_one (ps_ret (pe_joined (.cons (pe_fmt (pe_con (pv 0) rfl)) (.cons pe_str (.cons (pe_fmt (pe_call GT hr (by rfl) mT kT bT .nil pass0 (pa_cons (pe_fld (pv 0) rfl) pa_nil))) .nil)))))) pss_nil) (pss_one (ps_ret (pe_con (pv 0) rfl))), ?_⟩
    refine ⟨_, rfl, p, C, dx, _, _, rfl, hp, c.cl, c.nN, hn, n, d, rfl, hd, ?_⟩
    rcases q with ⟨e, q⟩ | ⟨s', rfl, wd, q⟩
    · rw [e]
      exact ⟨_, rfl, iteF ⟨_, rfl, p, C, dx, _, _, u, rfl, hp, c.cl, hc, hl, q⟩⟩
    · rw [wd.rat]
      have e1 : (rT s').length ≤ 122 := by
        unfold rT
        rw [tx_len]
        exact text_len (wd_60 wd).1 (wd_60 wd).2
      have e2 : (" " : Str).length = 1 := by decide +kernel
      refine ⟨_, rfl, iteT ?_⟩
      refine ⟨_, rfl, p, C, dx, _, _, u, rfl, hp, c.cl, hc, hl, .inl ⟨_, rfl, Nat.le_trans lk (by decide), _, rfl, by rw [empty_app]; exact Nat.le_trans lk (by decide), _, rfl, by rw [empty_app, len_app, e2]; exact Nat.le_trans (Nat.add_le_add_right lk 1) (by decide),
        _, rfl, p, C, dx, _, _, rfl, hp, c.cl, c.nN, hn, n, s', rfl, hd, wd, fun H1 s1 => .inl ⟨_, rfl, Nat.le_trans e1 (by decide), _, rfl, ?_, ?_⟩⟩⟩
      · rw [empty_app, len_app, len_app, e2]; exact Nat.le_trans (Nat.add_le_add (Nat.add_le_add_right lk 1) e1) (by decide)
      · rw [empty_app]; exact q _ s1
/-- repr: told by the instance's own told -/
def spReprA (P : Program) (w : World) (K : PySem.W.Frag) (mg : Str → Option Value) (base : Heap) : Sp := fun vs H Q _ => ∃ (p C g : Addr) (fs : List (Str × V)) (fdg : FuncData) (sp : Sp), vs = [.ref p] ∧ InsA K H p C fs ∧ fs.lookup ("told" : Str) = none ∧ FnOk P w K mg base CX0 5 g fdg ["self"] sp ∧ Meth K C "told" g ∧ Binds K fdg ["self"] [] ∧
  ∀ R : VK, (∀ (z : Str) H', z.length ≤ 150 → Q (.str (("Answer(" ++ z) ++ ")")) H' → R (.str z) H') → sp [.ref p] H R E0
theorem scReprA : FnScope ["self"] ["self"] (defScope aRepr) := ⟨rfl, rfl, rfl, by decide +kernel, rfl, by decide +kernel, by decide +kernel⟩
theorem ok_reprA {f : Addr} {fd : FuncData} (F : Fun K "__repr__" "Answer.__repr__" aRepr f fd) : FnOk P w K mg base CX0 6 f fd ["self"] (spReprA P w K mg base) := by
  refine F.ok scReprA (fun vs H Q E h => ?_) (fun cdv A outer s H vs Q E hr h => ?_)
  · obtain ⟨p, C, g, fs, fdg, sp, rfl, _⟩ := h
    rfl
  · obtain ⟨p, C, g, fs, fdg, sp, rfl, ⟨⟨dx, hp⟩, c⟩, hl, G, M, b, q⟩ := h
    refine ⟨_, pss_one (ps_ret (pe_joined (.cons pe_str (.cons (pe_fmt (pe_meth0 (E := E0) (pv 0) c.cl M G hr b .nil pass0)) (.cons pe_str .nil))))), ?_⟩
    have e1 : ("Answer(" : Str).length = 7 := by decide +kernel
    have e2 : (")" : Str).length = 1 := by decide +kernel
    refine ⟨_, rfl, by rw [empty_app, e1]; decide, _, rfl, p, dx, _, rfl, hp, hl, q _ fun z H' lz hq => .inl ⟨_, rfl, Nat.le_trans lz (by decide), _, rfl, ?_, _, rfl, ?_, ?_⟩⟩
    · rw [empty_app, len_app, e1]; exact Nat.le_trans (Nat.add_le_add_left lz 7) (by decide)
    · rw [empty_app, len_app, len_app, e1, e2]; exact Nat.le_trans (Nat.add_le_add_right (Nat.add_le_add_left lz 7) 1) (by decide)
    · rw [empty_app]; exact hq
end
end Lw

set_option maxRecDepth 100000
set_option maxHeartbeats 0
namespace Lw
open PySem PySem.Spec PyProof.Rows L2 VG
abbrev R : PySem.W.OpenRow := PySem.W.OpenLaw.row PySem.Challenge.rw_missingmiles_k12_answers_told
def glb (x : Str) (st : Stmt) (dfl : List He.Dv) : He.DefD := ⟨(x, none), x, x, defArgs st, defBody st, defScope st, dfl, []⟩
def mth (C m : Str) (st : Stmt) : He.DefD := ⟨(C, some m), m, C ++ "." ++ m, defArgs st, defBody st, defScope st, [], []⟩
def mthD (C m : Str) (st : Stmt) (dfl : List He.Dv) (kwd : List (Str × He.Dv)) : He.DefD := ⟨(C, some m), m, C ++ "." ++ m, defArgs st, defBody st, defScope st, dfl, kwd⟩
/-- the empty tuple that is __init__'s default -/
def dfl0 (K : PySem.W.Frag) : Addr := match K.lookup (He.fAd K ("Problem", some "__init__")) with
  | some ⟨_, _, .func fd, _⟩ => (match fd.defaults with
    | .ref T => (match K.lookup T with
      | some ⟨_, _, .seq its _, _⟩ => (match its.toList with
        | .ref e :: _ => e
        | _ => 0)
      | _ => 0)
    | _ => 0)
  | _ => 0
/-- the property problem -/
def pPr : ProD := ⟨"Answer", "problem", aProb⟩
def pros : List ProD := [pPr]
def more0 (K : PySem.W.Frag) : Bool := He.conB K "Problem" "MOST" (.int 60) && (decide (PySem.W.nsIn K mainGlobals "gcd" = some (some (.builtin "math.gcd"))) && (insB K (He.ga K "Problem") && (decide (PySem.W.kitOne K (.type "list") (.ref (He.ga K "Problem")) = some false) && (PySem.W.notFirst K (He.ga K "Problem") (.ref (He.ga K "Problem")) && (proB K pPr && (insB K (He.ga K "Answer") && (He.conB K "Answer" "KIND" (.str "open") && (decide (PySem.W.kitOne K (.ref (He.ga K "Answer")) (.ref (He.ga K "Answer")) = some true) && (decide (PySem.W.kitOne K (.ref (He.ga K "Answer")) (.ref (He.ga K "Solved")) = some false) && (insB K (He.ga K "Solved") && (He.conB K "Solved" "KIND" (.str "solved"))))))))))))
def more1 (K : PySem.W.Frag) : Bool := proIB K pPr "Solved" && (sinB K "Solved" "Solved.__init__" R.prog.main.file && (decide (PySem.W.kitOne K (.ref (He.ga K "Solved")) (.ref (He.ga K "Answer")) = some true) && (decide (PySem.W.kitOne K (.ref (He.ga K "Solved")) (.ref (He.ga K "Solved")) = some true) && (insB K (He.ga K "Barred") && (He.conB K "Barred" "KIND" (.str "barred") && (proIB K pPr "Barred" && (sinB K "Barred" "Barred.__init__" R.prog.main.file && (decide (PySem.W.kitOne K (.ref (He.ga K "Barred")) (.ref (He.ga K "Answer")) = some true) && (decide (PySem.W.kitOne K (.ref (He.ga K "Barred")) (.ref (He.ga K "Solved")) = some false) && (insB K (He.ga K "Top") && (He.conB K "Top" "KIND" (.str "top"))))))))))))
def more2 (K : PySem.W.Frag) : Bool := proIB K pPr "Top" && (sinB K "Top" "Top.__init__" R.prog.main.file && (decide (PySem.W.kitOne K (.ref (He.ga K "Top")) (.ref (He.ga K "Answer")) = some true) && (decide (PySem.W.kitOne K (.ref (He.ga K "Top")) (.ref (He.ga K "Solved")) = some true) && (insB K (He.ga K "Endless") && (He.conB K "Endless" "KIND" (.str "endless") && (proIB K pPr "Endless" && (sinB K "Endless" "Endless.__init__" R.prog.main.file && (decide (PySem.W.kitOne K (.ref (He.ga K "Endless")) (.ref (He.ga K "Answer")) = some true) && (decide (PySem.W.kitOne K (.ref (He.ga K "Endless")) (.ref (He.ga K "Solved")) = some true) && (decide (PySem.W.kitOne K (.ref (He.ga K "Barred")) (.ref (He.ga K "Top")) = some false) && (subB K "Solved" "Solved" "Answer")))))))))))
def more3 (K : PySem.W.Frag) : Bool := subB K "Barred" "Barred" "Answer" && (subB K "Top" "Top" "Solved" && (subB K "Solved" "Top" "Answer" && (subB K "Endless" "Endless" "Solved" && (subB K "Solved" "Endless" "Answer" && (cvalS K "Answer" "KIND" "open" && (cvalS K "Barred" "KIND" "barred" && (cvalS K "Endless" "KIND" "endless")))))))
def fns : List He.DefD := [glb "law" sLaw [],
  glb "_law_source" sSource [],
  glb "_law_draw" sDraw [],
  glb "_law_of" sOf [],
  glb "_law_same" sSame [],
  glb "_law_low" s__law_low [],
  glb "_law_wide" s__law_wide [],
  glb "_law_pair" s__law_pair [],
  glb "_law_text" s__law_text [],
  glb "copied" s_copied [],
  glb "listed" s_listed [],
  glb "_is_whole" s__is_whole [],
  glb "is_number" s_is_number [],
  glb "is_ratio" s_is_ratio [],
  glb "can_be_ratio" s_can_be_ratio [],
  glb "ratio_of" s_ratio_of [],
  glb "_figures" s__figures [],
  glb "ratio_text" s_ratio_text [],
  glb "are_factors" s_are_factors [],
  glb "ratios_of" s_ratios_of [],
  glb "_row_of" s__row_of [],
  glb "_rows_of" s__rows_of [],
  mthD "Problem" "__init__" pInit [.adr dfl0] [],
  mth "Problem" "__eq__" pEq,
  mth "Answer" "__init__" aInit,
  mth "Answer" "told" aTold,
  mth "Answer" "__bool__" aBool,
  mth "Answer" "__repr__" aRepr,
  ⟨("Solved", some "told"), "told", "Answer.told", defArgs aTold, defBody aTold, defScope aTold, [], []⟩,
  mth "Solved" "__bool__" sBool,
  ⟨("Solved", some "__repr__"), "__repr__", "Answer.__repr__", defArgs aRepr, defBody aRepr, defScope aRepr, [], []⟩,
  ⟨("Barred", some "told"), "told", "Answer.told", defArgs aTold, defBody aTold, defScope aTold, [], []⟩,
  ⟨("Barred", some "__bool__"), "__bool__", "Answer.__bool__", defArgs aBool, defBody aBool, defScope aBool, [], []⟩,
  ⟨("Barred", some "__repr__"), "__repr__", "Answer.__repr__", defArgs aRepr, defBody aRepr, defScope aRepr, [], []⟩,
  mth "Top" "told" tTold,
  ⟨("Top", some "__bool__"), "__bool__", "Solved.__bool__", defArgs sBool, defBody sBool, defScope sBool, [], []⟩,
  ⟨("Top", some "__repr__"), "__repr__", "Answer.__repr__", defArgs aRepr, defBody aRepr, defScope aRepr, [], []⟩,
  ⟨("Endless", some "told"), "told", "Answer.told", defArgs aTold, defBody aTold, defScope aTold, [], []⟩,
  ⟨("Endless", some "__bool__"), "__bool__", "Solved.__bool__", defArgs sBool, defBody sBool, defScope sBool, [], []⟩,
  ⟨("Endless", some "__repr__"), "__repr__", "Answer.__repr__", defArgs aRepr, defBody aRepr, defScope aRepr, [], []⟩,
  mth "Answer" "holds" aHolds,
  mth "Solved" "numbers" sNumbers,
  ⟨("Top", some "numbers"), "numbers", "Solved.numbers", defArgs sNumbers, defBody sNumbers, defScope sNumbers, [], []⟩,
  ⟨("Endless", some "numbers"), "numbers", "Solved.numbers", defArgs sNumbers, defBody sNumbers, defScope sNumbers, [], []⟩,
  mth "Barred" "weights" bWeights,
  mth "Top" "factors" tFactors,
  mth "Top" "weights" tWeights,
  mth "Endless" "factors" eFactors,
  mth "Endless" "direction" eDirection]
def fas : List He.Fa := [.glo "law", .glo "_law_source", .glo "_law_draw", .glo "_law_of", .glo "_law_same", .glo "_law_low", .glo "_law_wide", .glo "_law_pair", .glo "_law_text", .glo "copied", .glo "listed", .glo "_is_whole", .glo "is_number", .glo "is_ratio", .glo "can_be_ratio", .glo "ratio_of", .glo "_figures", .glo "ratio_text", .glo "are_factors", .glo "ratios_of", .glo "_row_of", .glo "_rows_of", .mkr "Problem", .meth "Problem" "__eq__", .glo "Problem", .cls "Problem", .noat "Problem" "_size", .noat "Problem" "_rows", .mkr "Answer", .meth "Answer" "told", .meth "Answer" "__bool__", .meth "Answer" "__repr__", .glo "Answer", .cls "Answer", .noat "Answer" "_problem", .noat "Answer" "_values", .noat "Answer" "_weights", .noat "Answer" "_factors", .noat "Answer" "_direction", .noat "Answer" "number", .meth "Solved" "told", .meth "Solved" "__bool__", .meth "Solved" "__repr__", .glo "Solved", .cls "Solved", .noat "Solved" "_problem", .noat "Solved" "_values", .noat "Solved" "_weights", .noat "Solved" "_factors", .noat "Solved" "_direction", .noat "Solved" "number", .mkr "Solved", .meth "Barred" "told", .meth "Barred" "__bool__", .meth "Barred" "__repr__", .glo "Barred", .cls "Barred", .noat "Barred" "_problem", .noat "Barred" "_values", .noat "Barred" "_weights", .noat "Barred" "_factors", .noat "Barred" "_direction", .noat "Barred" "number", .mkr "Barred", .meth "Top" "told", .meth "Top" "__bool__", .meth "Top" "__repr__", .glo "Top", .cls "Top", .noat "Top" "_problem", .noat "Top" "_values", .noat "Top" "_weights", .noat "Top" "_factors", .noat "Top" "_direction", .noat "Top" "number", .mkr "Top", .meth "Endless" "told", .meth "Endless" "__bool__", .meth "Endless" "__repr__", .glo "Endless", .cls "Endless", .noat "Endless" "_problem", .noat "Endless" "_values", .noat "Endless" "_weights", .noat "Endless" "_factors", .noat "Endless" "_direction", .noat "Endless" "number", .mkr "Endless", .meth "Answer" "holds", .meth "Solved" "numbers", .meth "Top" "numbers", .meth "Endless" "numbers", .meth "Barred" "weights", .meth "Top" "factors", .meth "Top" "weights", .meth "Endless" "factors", .meth "Endless" "direction", .free "int", .free "len", .free "list", .free "repr", .free "isinstance", .free "bool", .free "range", .free "tuple", .free "abs", .free "all", .free "zip", .free "enumerate", .free "super", .free "str"]
def more (K : PySem.W.Frag) : Bool := more0 K && (more1 K && (more2 K && (more3 K)))
def ins : List IniD := [⟨"Solved", sInit⟩, ⟨"Barred", bInit⟩, ⟨"Top", tInit⟩, ⟨"Endless", eInit⟩]
def tfs : List He.Defn := []
abbrev hk : PySem.W.Hook := hookQ 2 fas fns tfs more ins pros
def ob (s : PySem.W.SharedT) : AlP := obsQ 2 fas fns tfs more ins pros (HandSHeadRun.getT s)
theorem ob_eq (s : PySem.W.SharedT) : ob s = hk.obs s.abs := obsQ_eq (HandSHeadRun.getT_eq s)
def loose : List Str := (["gcd", "_law_source", "_law_draw", "_law_of", "_law_same", "_law_low", "_law_wide", "_law_pair", "_law_text", "copied", "listed", "_is_whole", "is_number", "is_ratio", "can_be_ratio", "ratio_of", "_figures", "ratio_text", "are_factors", "ratios_of", "_row_of", "_rows_of", "Problem", "Answer", "Solved", "Barred", "Top", "Endless", "_wall", "MilesError"] : List Str) ++ (["InvalidRatio", "InvalidNumber", "InvalidRow", "ZERO", "ONE", "_lowest", "ratio", "added", "multiplied", "is_less", "_scale", "_scaled", "_first", "Tableau", "are_weights", "weighted", "weighted_row", "ROOM", "SUM", "_is_kept", "_tableau", "_barring_weights"] : List Str)
theorem run (w : World) : HandSHeadRun.RunEqI R (PySem.W.view R.prog [0, 59]) hk ob 8000 loose w := by
  unfold HandSHeadRun.RunEqI
  kernel_rfl
end Lw

set_option maxRecDepth 100000
set_option linter.unusedVariables false
set_option maxHeartbeats 4000000
namespace Lw
open PySem PySem.Spec PyProof.Rows L2 VG
/-! answers just made -/
def NoF (fs : List (Str × V)) : Prop := ∀ m : Str, ¬ m = "_problem" → ¬ m = "_values" → ¬ m = "_weights" → ¬ m = "_factors" → ¬ m = "_direction" → ¬ m = "number" → fs.lookup m = none
/-- an instance of C at x that holds a problem and data of its own -/
def InsL (C x : Addr) (G : Hp) (M : V) (l : List (Str × PyData)) : Prop := ∃ dx fs, G x = some (.ins C dx fs) ∧ fs.lookup ("_problem" : Str) = some M ∧ NoF fs ∧ ∀ e ∈ l, ∃ v, fs.lookup e.1 = some v ∧ Dq G v e.2
theorem InsL.same {C x : Addr} {G G' : Hp} {M : V} {l : List (Str × PyData)} (s : Same G G') (h : InsL C x G M l) : InsL C x G' M l := by
  obtain ⟨dx, fs, h1, h2, h3, h4⟩ := h
  refine ⟨dx, fs, s _ _ h1, h2, h3, fun e he => ?_⟩
  obtain ⟨v, g1, g2⟩ := h4 e he
  exact ⟨v, g1, g2.same s⟩
theorem newer_wos {S : List Addr} {H G : Hp} (h : ∀ b ∈ S, ∃ o, H b = some o) : Same (newer H G) (wos S G) := fun b u e => by
  cases z : H b with
  | some x =>
    rw [newer_none z] at e
    cases e
  | none =>
    rw [newer_at z] at e
    rw [wos_out]
    · exact e
    · intro y
      obtain ⟨o, ho⟩ := h b y
      rw [z] at ho
      cases ho
abbrev st0 (H : Hp) (C x dx : Addr) : Hp := upd (upd H dx (.own x)) x (.ins C dx [])
theorem st0_same {H : Hp} {C x dx : Addr} (hx : H x = none) (hdx : H dx = none) : Same H (st0 H C x dx) := fun b o h => by
  show upd (upd H dx (.own x)) x (.ins C dx []) b = some o
  rw [upd_ne (ne_of_none h hx), upd_ne (ne_of_none h hdx)]
  exact h
theorem st0_new {H H' : Hp} {C x dx : Addr} (b : Bat x (st0 H C x dx) H') : Same (newer (st0 H C x dx) H') (newer H H') := newer_mono (fun c z => upd_none (upd_none z)) fun c z o e => e
theorem st0_end {H H' : Hp} {C x dx : Addr} (hx : H x = none) (hdx : H dx = none) (b : Bat x (st0 H C x dx) H') : Same H H' := fun c o h => b.ex c o (ne_of_none h hx) (st0_same hx hdx _ _ h)
theorem lk_pv : ∀ x y : V, (fS x y).lookup ("_problem" : Str) = some x ∧ (fS x y).lookup ("_values" : Str) = some y ∧ NoF (fS x y) := fun x y => by
  refine ⟨?_, ?_, fun m h1 h2 h3 h4 h5 h6 => ?_⟩
  all_goals unfold fS fA
  · rw [lookup_putF, if_neg (by decide +kernel), lookup_putF, if_pos rfl]
  · rw [lookup_putF, if_pos rfl]
  · rw [lookup_putF, if_neg h2, lookup_putF, if_neg h1]
    rfl
theorem lk_pb : ∀ x y : V, (fB x y).lookup ("_problem" : Str) = some x ∧ (fB x y).lookup ("_weights" : Str) = some y ∧ NoF (fB x y) := fun x y => by
  refine ⟨?_, ?_, fun m h1 h2 h3 h4 h5 h6 => ?_⟩
  all_goals unfold fB fA
  · rw [lookup_putF, if_neg (by decide +kernel), lookup_putF, if_pos rfl]
  · rw [lookup_putF, if_pos rfl]
  · rw [lookup_putF, if_neg h3, lookup_putF, if_neg h1]
    rfl
theorem lk_pa : ∀ x : V, (fA x).lookup ("_problem" : Str) = some x ∧ NoF (fA x) := fun x => by
  refine ⟨?_, fun m h1 h2 h3 h4 h5 h6 => ?_⟩
  all_goals unfold fA
  · rw [lookup_putF, if_pos rfl]
  · rw [lookup_putF, if_neg h1]
    rfl
theorem lk_pt : ∀ x y a b n : V, (fT x y a b n).lookup ("_problem" : Str) = some x ∧ (fT x y a b n).lookup ("_values" : Str) = some y ∧ (fT x y a b n).lookup ("_factors" : Str) = some a ∧ (fT x y a b n).lookup ("_weights" : Str) = some b ∧ (fT x y a b n).lookup ("number" : Str) = some n ∧ NoF (fT x y a b n) := fun x y a b n => by
  refine ⟨?_, ?_, ?_, ?_, ?_, fun m h1 h2 h3 h4 h5 h6 => ?_⟩
  all_goals unfold fT
  · rw [lookup_putF, if_neg (by decide +kernel), lookup_putF, if_neg (by decide +kernel), lookup_putF, if_neg (by decide +kernel)]
    exact (lk_pv x y).1
  · rw [lookup_putF, if_neg (by decide +kernel), lookup_putF, if_neg (by decide +kernel), lookup_putF, if_neg (by decide +kernel)]
    exact (lk_pv x y).2.1
  · rw [lookup_putF, if_neg (by decide +kernel), lookup_putF, if_neg (by decide +kernel), lookup_putF, if_pos rfl]
  · rw [lookup_putF, if_neg (by decide +kernel), lookup_putF, if_pos rfl]
  · rw [lookup_putF, if_pos rfl]
  · rw [lookup_putF, if_neg h6, lookup_putF, if_neg h3, lookup_putF, if_neg h4]
    exact (lk_pv x y).2.2 m h1 h2 h3 h4 h5 h6
theorem lk_pe : ∀ x y a b : V, (fE x y a b).lookup ("_problem" : Str) = some x ∧ (fE x y a b).lookup ("_values" : Str) = some y ∧ (fE x y a b).lookup ("_factors" : Str) = some a ∧ (fE x y a b).lookup ("_direction" : Str) = some b ∧ NoF (fE x y a b) := fun x y a b => by
  refine ⟨?_, ?_, ?_, ?_, fun m h1 h2 h3 h4 h5 h6 => ?_⟩
  all_goals unfold fE
  · rw [lookup_putF, if_neg (by decide +kernel), lookup_putF, if_neg (by decide +kernel)]
    exact (lk_pv x y).1
  · rw [lookup_putF, if_neg (by decide +kernel), lookup_putF, if_neg (by decide +kernel)]
    exact (lk_pv x y).2.1
  · rw [lookup_putF, if_neg (by decide +kernel), lookup_putF, if_pos rfl]
  · rw [lookup_putF, if_pos rfl]
  · rw [lookup_putF, if_neg h5, lookup_putF, if_neg h4]
    exact (lk_pv x y).2.2 m h1 h2 h3 h4 h5 h6
section
variable {K : PySem.W.Frag} {H : Hp} {x dx CP : Addr} {M : V} {R : Hp → Prop} {E : XK}
theorem madeA {C : Addr} (hx : H x = none) (hdx : H dx = none) (c : AnC K C) (k : ∀ H', Same H H' → InsL C x (newer H H') M [] → R H') :
    spInitA K [.ref x, M] (st0 H C x dx) (fun v H3 => v = .non ∧ R H3) E :=
  have b : Bat x (st0 H C x dx) (upd (st0 H C x dx) x (.ins C dx (fA M))) := Bat.start upd_same
  ⟨x, C, dx, M, rfl, upd_same, c, rfl, k _ (st0_end hx hdx b) ⟨dx, fA M, by rw [newer_at hx]; exact upd_same, (lk_pa M).1, (lk_pa M).2, fun e he => by cases he⟩⟩
theorem madeS {C CS gA : Addr} {y : V} {d : PyData} (hx : H x = none) (hdx : H dx = none) (c : AnC K C) (so : SubOf K CS C gA) (hy : Dp K H y d) (fy : fit 2 d = true) (k : ∀ H', Same H H' → InsL C x (newer H H') M [("_values", d)] → R H') :
    spInitS K CS gA [.ref x, M, y] (st0 H C x dx) (fun v H3 => v = .non ∧ R H3) E :=
  ⟨x, C, dx, M, y, d, rfl, upd_same, c, so, Dp.same (st0_same hx hdx) _ _ hy, fy, fun v H' e b n => ⟨rfl, k H' (st0_end hx hdx b) ⟨dx, fS M v, by rw [newer_at hx]; exact e, (lk_pv M v).1, (lk_pv M v).2.2, fun e he => by
    rw [List.mem_singleton.mp he]
    exact ⟨v, (lk_pv M v).2.1, n.same (st0_new b)⟩⟩⟩⟩
theorem madeB {C CB gA : Addr} {y : V} {d : PyData} (hx : H x = none) (hdx : H dx = none) (c : AnC K C) (so : SubOf K CB C gA) (hy : Dp K H y d) (fy : fit 2 d = true) (k : ∀ H', Same H H' → InsL C x (newer H H') M [("_weights", d)] → R H') :
    spInitB K CB gA [.ref x, M, y] (st0 H C x dx) (fun v H3 => v = .non ∧ R H3) E :=
  ⟨x, C, dx, M, y, d, rfl, upd_same, c, so, Dp.same (st0_same hx hdx) _ _ hy, fy, fun v H' e b n => ⟨rfl, k H' (st0_end hx hdx b) ⟨dx, fB M v, by rw [newer_at hx]; exact e, (lk_pb M v).1, (lk_pb M v).2.2, fun e he => by
    rw [List.mem_singleton.mp he]
    exact ⟨v, (lk_pb M v).2.1, n.same (st0_new b)⟩⟩⟩⟩
theorem madeT {C CT CS gS gA : Addr} {y a b n : V} {d da db dn : PyData} (hx : H x = none) (hdx : H dx = none) (c : AnC K C) (st : SubOf K CT C gS) (so : SubOf K CS C gA) (hy : Dp K H y d) (fy : fit 2 d = true) (ha : Dp K H a da) (fa : fit 2 da = true) (hb : Dp K H b db) (fb : fit 2 db = true) (hn : Dp K H n dn) (fn : fit 2 dn = true)
    (k : ∀ H', Same H H' → InsL C x (newer H H') M [("_values", d), ("_factors", da), ("_weights", db), ("number", dn)] → R H') :
    spInitT K CT CS gS gA [.ref x, M, a, n, y, b] (st0 H C x dx) (fun v H3 => v = .non ∧ R H3) E := by
  have s0 := st0_same (C := C) hx hdx
  refine ⟨x, C, dx, M, y, a, b, n, d, da, db, dn, rfl, upd_same, c, st, so, Dp.same s0 _ _ hy, fy, Dp.same s0 _ _ ha, fa, Dp.same s0 _ _ hb, fb, Dp.same s0 _ _ hn, fn, fun y' a' b' n' H' e bt n1 n2 n3 n4 => ⟨rfl, k H' (st0_end hx hdx bt) ?_⟩⟩
  obtain ⟨l1, l2, l3, l4, l5, l6⟩ := lk_pt M y' a' b' n'
  refine ⟨dx, _, by rw [newer_at hx]; exact e, l1, l6, fun e he => ?_⟩
  have s := st0_new bt
  simp only [List.mem_cons, List.not_mem_nil, or_false] at he
  rcases he with rfl | rfl | rfl | rfl
  · exact ⟨_, l2, n1.same s⟩
  · exact ⟨_, l3, n2.same s⟩
  · exact ⟨_, l4, n3.same s⟩
  · exact ⟨_, l5, n4.same s⟩
theorem madeE {C CE CS gS gA : Addr} {y a b : V} {d da db : PyData} (hx : H x = none) (hdx : H dx = none) (c : AnC K C) (st : SubOf K CE C gS) (so : SubOf K CS C gA) (hy : Dp K H y d) (fy : fit 2 d = true) (ha : Dp K H a da) (fa : fit 2 da = true) (hb : Dp K H b db) (fb : fit 2 db = true)
    (k : ∀ H', Same H H' → InsL C x (newer H H') M [("_values", d), ("_factors", da), ("_direction", db)] → R H') :
    spInitE K CE CS gS gA [.ref x, M, a, y, b] (st0 H C x dx) (fun v H3 => v = .non ∧ R H3) E := by
  have s0 := st0_same (C := C) hx hdx
  refine ⟨x, C, dx, M, y, a, b, d, da, db, rfl, upd_same, c, st, so, Dp.same s0 _ _ hy, fy, Dp.same s0 _ _ ha, fa, Dp.same s0 _ _ hb, fb, fun y' a' b' H' e bt n1 n2 n3 => ⟨rfl, k H' (st0_end hx hdx bt) ?_⟩⟩
  obtain ⟨l1, l2, l3, l4, l6⟩ := lk_pe M y' a' b'
  refine ⟨dx, _, by rw [newer_at hx]; exact e, l1, l6, fun e he => ?_⟩
  have s := st0_new bt
  simp only [List.mem_cons, List.not_mem_nil, or_false] at he
  rcases he with rfl | rfl | rfl
  · exact ⟨_, l2, n1.same s⟩
  · exact ⟨_, l3, n2.same s⟩
  · exact ⟨_, l4, n3.same s⟩
end
end Lw

set_option maxRecDepth 100000
/-! A star in targets: (a, *b) = .., (*a, b, c) = .. of a list or a tuple; either of two readings. -/
namespace VG
open PySem PySem.Spec PyProof.Rows L2 PySem.Calls
section
variable {prog : Program} {w : World} {A : Around} {E : Value → Shared → Prop} {s : Shared}
open PySem.W in
theorem unp_starL {l : Addr} {items : Array Value} {n i : Nat} {Q : List Value → Shared → Prop} (hl : s.heap.IsList l items) (hh : A.handled = none) (hi : i < n) (hn : n ≤ items.size + 1) (hz : items.size ≤ sizeLine)
    (h : ∀ (h' : Heap) (tk : Nat), (∀ b o, s.heap.get? b = some o → h'.get? b = some o) → Q (items.toList.take i ++ [.ref h'.objs.size] ++ (items.toList.drop i).drop (items.size + 1 - n)) { s with heap := h'.push { cls := .type "list", data := .seq ((items.toList.drop i).take (items.size + 1 - n)).toArray }, toks := tk }) : wpAny (model prog w) A (unpackItems (.ref l) n (some i)) Q E s := by
  have hlt : l ≠ s.heap.objs.size := by obtain ⟨o, ho, _⟩ := hl; exact Nat.ne_of_lt (Heap.lt_size ho)
  unfold unpackItems
  refine wpAny_bind ?_
  unfold notIterableAtAll
  refine wpAny_bind (wpAny_specialOf hl.typeIs slot_list_iter.lookup ?_)
  refine wpAny_pure ?_
  simp only [Bool.false_eq_true, if_false]
  refine wpAny_bind (wpAny_holding (wpAny_pyIter_list hl ?_))
  refine wpAny_bind (wpAny_holding (kun_draw hlt i 0 _ _ ⟨_, Heap.get?_push_size _ rfl, rfl, rfl⟩ (hl.push _) (by omega) fun h₁ hit₁ hs₁ => ?_))
  have hl₁ : h₁.IsList l items := (hl.push _).extBut hs₁.extBut hlt
  rw [Nat.zero_add] at hit₁
  have hit₁' := hit₁
  obtain ⟨oi, hoi, _⟩ := hit₁'
  have hl₁' := hl₁
  obtain ⟨ol, hol, _⟩ := hl₁'
  rw [List.drop_zero]
  have hfl : (items.toList.take i).length = i := by rw [List.length_take, Array.length_toList]; omega
  rw [if_neg (show ¬ ((items.toList.take i).length < i) by rw [hfl]; omega)]
  refine wpAny_bind (wpAny_holding (kun_collect (s := { s with heap := h₁ }) (T := "list_iterator") (.inr (.inr (.inl rfl))) (Walks.list (A := A.in1) hh s.heap.objs.size l hlt items) (fun j u st => st.1.typeIs) (k := i) (by omega) ⟨hit₁, hl₁⟩ (Heap.lt_size hoi) (Heap.lt_size hol) (fun h₂ tk hk => ?_) hz))
  have hrl : (items.toList.drop i).length = items.size - i := by rw [List.length_drop, Array.length_toList]
  have hmid : (items.toList.drop i).length - (n - 1 - i) = items.size + 1 - n := by rw [hrl]; omega
  show wpAny _ _ (if (items.toList.drop i).length < n - 1 - i then _ else _) _ _ _
  rw [if_neg (by rw [hrl]; omega)]
  show wpAny _ _ (newList ((items.toList.drop i).take ((items.toList.drop i).length - (n - 1 - i))) >>= fun d => pure (items.toList.take i ++ [d] ++ (items.toList.drop i).drop ((items.toList.drop i).length - (n - 1 - i)))) _ _ _
  rw [hmid]
  have he : ∀ b o, s.heap.get? b = some o → h₂.get? b = some o := fun b o e => by
    have nb : b ≠ s.heap.objs.size := Nat.ne_of_lt (Heap.lt_size e)
    exact hk b o nb (hs₁.extBut b o nb (Heap.get?_push_of_some _ e))
  exact wpAny_bind (wpAny_newList (s := { s with heap := h₂, toks := tk }) (wpAny_pure (h h₂ tk he)) (by rw [List.length_take, hrl]; omega))
open PySem.W in
theorem unp_starT {l : Addr} {items : Array Value} {n i : Nat} {Q : List Value → Shared → Prop} (hl : IsTup s.heap l items) (hh : A.handled = none) (hi : i < n) (hn : n ≤ items.size + 1) (hz : items.size ≤ sizeLine)
    (h : ∀ (h' : Heap) (tk : Nat), (∀ b o, s.heap.get? b = some o → h'.get? b = some o) → Q (items.toList.take i ++ [.ref h'.objs.size] ++ (items.toList.drop i).drop (items.size + 1 - n)) { s with heap := h'.push { cls := .type "list", data := .seq ((items.toList.drop i).take (items.size + 1 - n)).toArray }, toks := tk }) : wpAny (model prog w) A (unpackItems (.ref l) n (some i)) Q E s := by
  have hlt : l ≠ s.heap.objs.size := by obtain ⟨o, ho, _⟩ := hl; exact Nat.ne_of_lt (Heap.lt_size ho)
  unfold unpackItems
  refine wpAny_bind ?_
  unfold notIterableAtAll
  refine wpAny_bind (wpAny_specialOf hl.typeIs slot_tuple_iter.lookup ?_)
  refine wpAny_pure ?_
  simp only [Bool.false_eq_true, if_false]
  refine wpAny_bind (wpAny_holding (iter_tuple hl ?_))
  refine wpAny_bind (wpAny_holding (draw_tuple hlt i 0 _ _ ⟨_, Heap.get?_push_size _ rfl, rfl, rfl⟩ (hl.push _) (by omega) fun h₁ hit₁ hs₁ => ?_))
  have hl₁ : IsTup h₁ l items := (hl.push _).extBut hs₁.extBut hlt
  rw [Nat.zero_add] at hit₁
  have hit₁' := hit₁
  obtain ⟨oi, hoi, _⟩ := hit₁'
  have hl₁' := hl₁
  obtain ⟨ol, hol, _⟩ := hl₁'
  rw [List.drop_zero]
  have hfl : (items.toList.take i).length = i := by rw [List.length_take, Array.length_toList]; omega
  rw [if_neg (show ¬ ((items.toList.take i).length < i) by rw [hfl]; omega)]
  refine wpAny_bind (wpAny_holding (kun_collect (s := { s with heap := h₁ }) (T := "tuple_iterator") (.inr (.inr (.inr rfl))) (Walks.tuple (A := A.in1) hh s.heap.objs.size l hlt items) (fun j u st => st.1.typeIs) (k := i) (by omega) ⟨hit₁, hl₁⟩ (Heap.lt_size hoi) (Heap.lt_size hol) (fun h₂ tk hk => ?_) hz))
  have hrl : (items.toList.drop i).length = items.size - i := by rw [List.length_drop, Array.length_toList]
  have hmid : (items.toList.drop i).length - (n - 1 - i) = items.size + 1 - n := by rw [hrl]; omega
  show wpAny _ _ (if (items.toList.drop i).length < n - 1 - i then _ else _) _ _ _
  rw [if_neg (by rw [hrl]; omega)]
  show wpAny _ _ (newList ((items.toList.drop i).take ((items.toList.drop i).length - (n - 1 - i))) >>= fun d => pure (items.toList.take i ++ [d] ++ (items.toList.drop i).drop ((items.toList.drop i).length - (n - 1 - i)))) _ _ _
  rw [hmid]
  have he : ∀ b o, s.heap.get? b = some o → h₂.get? b = some o := fun b o e => by
    have nb : b ≠ s.heap.objs.size := Nat.ne_of_lt (Heap.lt_size e)
    exact hk b o nb (hs₁.extBut b o nb (Heap.get?_push_of_some _ e))
  exact wpAny_bind (wpAny_newList (s := { s with heap := h₂, toks := tk }) (wpAny_pure (h h₂ tk he)) (by rw [List.length_take, hrl]; omega))
end
/-- targets with a star at place i among n -/
def gStar (K : PySem.W.Frag) (n i : Nat) (t : TGs) : TG := fun v σ H Q => ∃ a xs, v = .ref a ∧ (SqT K H a xs ∨ SqL K H a xs) ∧ i < n ∧ n ≤ xs.length + 1 ∧ ∀ D, H D = none → t (xs.take i ++ [.ref D] ++ (xs.drop i).drop (xs.length + 1 - n)) σ (upd H D (.lst ((xs.drop i).take (xs.length + 1 - n)))) Q
section
variable {X : Cx}
theorem pgs_star {e : Expr} {es : List Expr} {t : TG} {u : TGs} {p : Pos} (h1 : PG X e t) (h2 : PGs X es u)
    (hs : (assignEach (.Starred e p :: es) X.env).map (·.2) = assign e X.env :: (assignEach es X.env).map (·.2) := by rfl) : PGs X (.Starred e p :: es) (gCons t u) := by
  refine ⟨fun pins s σ H vs us Q I r h => ?_⟩
  obtain ⟨v, vr, e1, h⟩ := h
  subst e1
  cases r with
  | cons r rr =>
    rw [hs]
    refine assignInOrder_cons (thn (h1.run pins s σ H _ _ _ I r h) fun _ s1 ⟨σ1, H1, I1, q1⟩ => ?_)
    exact h2.run pins s1 σ1 H1 _ _ Q I1 rr q1
theorem vals_take : ∀ {xs : List V} {us : List Value} (n : Nat), Vals xs us → Vals (xs.take n) (us.take n)
  | _, _, 0, _ => .nil
  | _, _, _ + 1, .nil => .nil
  | _, _, n + 1, .cons r t => .cons r (vals_take n t)
theorem vals_drop : ∀ {xs : List V} {us : List Value} (n : Nat), Vals xs us → Vals (xs.drop n) (us.drop n)
  | _, _, 0, h => h
  | _, _, _ + 1, .nil => .nil
  | _, _, n + 1, .cons _ t => vals_drop n t
theorem pg_star {es : List Expr} {k : Nat} {t : TGs} {n i : Nat} {pos : Pos} (hc : X.calm = true) (h : PGs X es t)
    (hn : (assignEach es X.env).length = n := by rfl) (hst : (assignEach es X.env).findIdx? (·.1) = some i := by rfl) : PG X (.Tuple es k pos) (gStar X.K n i t) := by
  refine ⟨fun pins s σ H v u Q I r hw => ?_⟩
  obtain ⟨a, xs, e1, hq, hi, hl, hw⟩ := hw
  subst e1
  cases r
  have fin : ∀ {its : List Value}, Vals xs its → xs.length ≤ sizeLine → ∀ (h' : Heap) (tk : Nat), (∀ b o, s.heap.get? b = some o → h'.get? b = some o) →
      wpAny (model X.prog X.w) X.A (assignInOrder ((assignEach es X.env).map (·.2)) (its.toArray.toList.take i ++ [.ref h'.objs.size] ++ (its.toArray.toList.drop i).drop (its.toArray.size + 1 - n))) (fun _ s' => ∃ σ' H', Inv X pins σ' H' s' ∧ Q σ' H') X.xe { s with heap := h'.push { cls := .type "list", data := .seq ((its.toArray.toList.drop i).take (its.toArray.size + 1 - n)).toArray }, toks := tk } := by
    intro its rv hz h' tk kk
    have I1 : Inv X pins σ H { s with heap := h', toks := tk } := I.kept (t' := tk) kk
    have hD : H h'.objs.size = none := I1.hok.fresh (Nat.le_refl _)
    have lv := rv.length
    have e2 : its.toArray.size = xs.length := by rw [List.size_toArray, lv]
    rw [e2]
    have rr : Vals ((xs.drop i).take (xs.length + 1 - n)) ((its.toArray.toList.drop i).take (xs.length + 1 - n)) := vals_take _ (vals_drop _ rv)
    have I2 := I1.laid (a := h'.objs.size) (o := .lst ((xs.drop i).take (xs.length + 1 - n))) (t' := tk) (h' := h'.push { cls := .type "list", data := .seq ((its.toArray.toList.drop i).take (xs.length + 1 - n)).toArray }) (fun b u e => Heap.get?_push_of_some _ e) (Nat.le_refl _)
      ⟨by rw [List.length_take, List.length_drop]; omega, _, 0, rr, Heap.get?_push_size _ rfl⟩
    refine h.run pins _ σ _ _ _ Q I2 ?_ (hw _ hD)
    exact ((vals_take i rv).append (.cons (show RelV (V.ref h'.objs.size) (Value.ref h'.objs.size) from rfl) .nil)).append (vals_drop _ (vals_drop i rv))
  rw [assign_Tuple]
  refine wpAny_bind (wpAny_standAt ?_)
  unfold unpack
  rw [hn, hst]
  rcases hq with hq | hq
  · obtain ⟨its, rv, ht, hz⟩ := I.tuple hq
    have lv := rv.length
    have e2 : its.toArray.size = xs.length := by rw [List.size_toArray, lv]
    exact wpAny_bind (wpAny_holding (unp_starT ht (I.ok.hd hc) hi (by rw [e2]; exact hl) (by rw [e2]; exact hz) (fin rv hz)))
  · obtain ⟨its, rv, ht, hz⟩ := I.list hq
    have lv := rv.length
    have e2 : its.toArray.size = xs.length := by rw [List.size_toArray, lv]
    exact wpAny_bind (wpAny_holding (unp_starL ht.isList (I.ok.hd hc) hi (by rw [e2]; exact hl) (by rw [e2]; exact hz) (fin rv hz)))
/-- either of two readings -/
theorem pe_either {e : Expr} {t u : TE} (h : PE X e t) (g : PE X e u) : PE X e (fun σ H Q => t σ H Q ∨ u σ H Q) :=
  ⟨fun pins s σ H Q I q => q.elim (h.run pins s σ H Q I) (g.run pins s σ H Q I)⟩
end
end VG

set_option maxRecDepth 100000
/-! `is`, `is not` of truths. -/
namespace VG
open PySem PySem.Spec PyProof.Rows L2
section
variable {X : Cx}
def rIsB (neg : Bool) : R2 := fun x y H Q => ∃ a b, x = .bl a ∧ y = .bl b ∧ Q (.bl (if neg then !decide (a = b) else decide (a = b))) H
theorem op_isB : OpR X (compareOp .Is) (rIsB false) := by
  intro pins s σ H x y v u Q I rx ry h
  obtain ⟨a, b, rfl, rfl, q⟩ := h
  cases rx
  cases ry
  show wpAny _ _ ((isSame (Value.bool a) (Value.bool b)) >>= fun z => pure (Value.bool z)) _ _ s
  refine wpAny_bind (wpAny_isSame_plain rfl (wpAny_pure ⟨.bl _, H, I, rfl, ?_⟩))
  have e : ((Value.bool a == Value.bool b) : Bool) = decide (a = b) := by cases a <;> cases b <;> rfl
  rw [e]
  exact q
theorem op_isnotB : OpR X (compareOp .IsNot) (rIsB true) := by
  intro pins s σ H x y v u Q I rx ry h
  obtain ⟨a, b, rfl, rfl, q⟩ := h
  cases rx
  cases ry
  show wpAny _ _ ((isSame (Value.bool a) (Value.bool b)) >>= fun z => pure (Value.bool (!z))) _ _ s
  refine wpAny_bind (wpAny_isSame_plain rfl (wpAny_pure ⟨.bl _, H, I, rfl, ?_⟩))
  have e : ((Value.bool a == Value.bool b) : Bool) = decide (a = b) := by cases a <;> cases b <;> rfl
  rw [e]
  exact q
end
end VG

set_option maxRecDepth 100000
set_option linter.unusedVariables false
set_option maxHeartbeats 4000000
namespace Lw
open PySem PySem.Spec PyProof.Rows L2 VG
/-! what the law finds of the program -/
/-- a reading for any of some cases -/
def tAny {ι : Type} (t : ι → TE) : TE := fun σ H Q => ∃ i, t i σ H Q
theorem pe_any {X : Cx} {e : Expr} {ι : Type} {t : ι → TE} (h : ∀ i, PE X e (t i)) : PE X e (tAny t) :=
  ⟨fun pins s σ H Q I ⟨i, q⟩ => (h i).run pins s σ H Q I q⟩
structure Def (P : Program) (w : World) (K : PySem.W.Frag) (mg : Str → Option Value) (base : Heap) (CX : CXT) (k : Nat) (x : Str) (ps : List Str) (sp : Sp) (f : Addr) (fd : FuncData) : Prop where
  ok : FnOk P w K mg base CX k f fd ps sp
  at_ : mg x = some (.ref f)
  kp : PySem.W.keepIn K (.ref f) = true
  bd : L2.Binds K fd ps []
structure MetD (P : Program) (w : World) (K : PySem.W.Frag) (mg : Str → Option Value) (base : Heap) (CX : CXT) (k : Nat) (C : Addr) (m : Str) (ps : List Str) (sp : Sp) (f : Addr) (fd : FuncData) : Prop where
  ok : FnOk P w K mg base CX k f fd ps sp
  at_ : Meth K C m f
  bd : L2.Binds K fd ps []
structure SpeD (P : Program) (w : World) (K : PySem.W.Frag) (mg : Str → Option Value) (base : Heap) (CX : CXT) (k : Nat) (C : Addr) (m : Str) (sp : Sp) (f : Addr) : Prop where
  ok : FnR P w K mg base CX k f sp
  at_ : PySem.W.findIn K (.ref C) m = some (some (.ref f))
  fn : PySem.W.isFn K (.ref f) = true
/-- one of the answers' classes, with what all of them have -/
structure Kls (P : Program) (w : World) (K : PySem.W.Frag) (mg : Str → Option Value) (base : Heap) where
  C : Addr
  gT : Addr
  dT : FuncData
  spT : Sp
  gP : Addr
  pP : Addr
  dP : FuncData
  gB : Addr
  bv : Bool
  gR : Addr
  kd : Str
  u : Value
  c : AnC K C
  told : MetD P w K mg base CX0 5 C "told" ["self"] spT gT dT
  prob : FnOk P w K mg base CX0 1 gP dP ["self"] (spProb K)
  prop : PropOf K C "problem" pP gP
  bP : L2.Binds K dP ["self"] []
  bool_ : SpeD P w K mg base CX0 1 C "__bool__" (spBoolC bv) gB
  repr_ : SpeD P w K mg base CX0 6 C "__repr__" (spReprA P w K mg base) gR
  kind : Con K C "KIND" (.str kd) u
  ha : PySem.W.findIn K (.ref C) "__class__" = some (some (.builtin "object.__class__"))
  hn : PySem.W.specialIn K (.builtin "object.__class__") "__get__" = some (some (.builtin "getset_descriptor.__get__"))
  htk : PySem.W.takesIn K (.builtin "object.__class__") = some true
  hm : PySem.W.mroIn K C (.type "object") = some true
theorem Kls.ty {P : Program} {w : World} {K : PySem.W.Frag} {mg : Str → Option Value} {base : Heap} (I : Kls P w K mg base) {a dx : Addr} {H : Hp} {fs : List (Str × V)} (h : H a = some (.ins I.C dx fs)) : TyX K H (.ref a) (.ref I.C) := .base (.ins h I.c.cl I.ha I.hn I.htk I.hm)
theorem pe_anyK {X : Cx} {e : Expr} (P : Program) (w : World) (K : PySem.W.Frag) (mg : Str → Option Value) (base : Heap) {t : Kls P w K mg base → TE} (h : ∀ i : Kls P w K mg base, PE X e (t i)) : PE X e (tAny t) := pe_any h
/-- keywords of Endless, in the order of its parameters -/
def turn4 {α : Type} (us ws : List α) : List α := match ws with
  | [a, b, c, d] => us ++ [c, b, a, d]
  | _ => us ++ ws
structure LawT (P : Program) (w : World) (K : PySem.W.Frag) (mg : Str → Option Value) (base : Heap) (CP gA gS : Addr) (k0 k1 k2 k3 k4 : Kls P w K mg base) : Prop where
  src : ∃ f fd, Def P w K mg base CX0 1 "_law_source" ["_law_script"] (spSource K) f fd
  draw : ∃ f fd, Def P w K mg base CX0 1 "_law_draw" ["_law_src", "_law_many"] spDraw f fd
  of_ : ∃ f fd, Def P w K mg base CX0 2 "_law_of" ["_law_src", "_law_some"] (spOf K) f fd
  same : ∃ f fd, FnG P w K mg base CX0 1 f fd ["_law_found", "_law_due"] (spSame K) ∧ mg "_law_same" = some (.ref f) ∧ PySem.W.keepIn K (.ref f) = true ∧ L2.Binds K fd ["_law_found", "_law_due"] []
  wide : ∃ f fd, Def P w K mg base CX0 2 "_law_wide" ["_law_src"] (spWide K) f fd
  text : ∃ f fd, Def P w K mg base CX0 2 "_law_text" ["_law_value"] (spTextL K) f fd
  initP : ∃ f fd, FnOk P w K mg base CX0 7 f fd ["self", "size", "rows"] (spInitP K CP) ∧ Mk K CP f ∧ L2.Binds K fd ["self", "size", "rows"] []
  eqP : ∃ g, SpeD P w K mg base CX0 1 CP "__eq__" (spEqP K CP) g
  clsP : TxP K CP
  insP : TxI K CP
  nfP : PySem.W.notFirst K CP (.ref CP) = true
  i0 : ∃ f fd, FnOk P w K mg base CX0 1 f fd ["self", "problem"] (spInitA K) ∧ Mk K k0.C f ∧ L2.Binds K fd ["self", "problem"] []
  i1 : ∃ f fd, FnOk P w K mg base CX0 4 f fd ["self", "problem", "values"] (spInitS K k1.C gA) ∧ Mk K k1.C f ∧ L2.Binds K fd ["self", "problem", "values"] []
  i2 : ∃ f fd, FnOk P w K mg base CX0 4 f fd ["self", "problem", "weights"] (spInitB K k2.C gA) ∧ Mk K k2.C f ∧ L2.Binds K fd ["self", "problem", "weights"] []
  i3 : ∃ f fd, FnOk P w K mg base CX0 5 f fd ["self", "problem", "factors", "number", "values", "weights"] (spInitT K k3.C k1.C gS gA) ∧ Mk K k3.C f ∧ L2.Binds K fd ["self", "problem", "factors", "number", "values", "weights"] []
  i4 : ∃ f fd, FnOk P w K mg base CX0 5 f fd ["self", "problem", "factors", "values", "direction"] (spInitE K k4.C k1.C gS gA) ∧ Mk K k4.C f ∧ KBn K fd ["self", "problem", "factors", "values", "direction"] 1 ["values", "factors", "problem", "direction"] turn4 turn4
  s1 : SubOf K k1.C k1.C gA
  s2 : SubOf K k2.C k2.C gA
  s3 : SubOf K k3.C k3.C gS
  s3' : SubOf K k1.C k3.C gA
  s4 : SubOf K k4.C k4.C gS
  s4' : SubOf K k1.C k4.C gA
  numbers1 : ∃ f fd, MetD P w K mg base CX0 5 k1.C "numbers" ["self"] (spListF K "_values") f fd
  numbers3 : ∃ f fd, MetD P w K mg base CX0 5 k3.C "numbers" ["self"] (spListF K "_values") f fd
  numbers4 : ∃ f fd, MetD P w K mg base CX0 5 k4.C "numbers" ["self"] (spListF K "_values") f fd
  weights2 : ∃ f fd, MetD P w K mg base CX0 5 k2.C "weights" ["self"] (spListF K "_weights") f fd
  weights3 : ∃ f fd, MetD P w K mg base CX0 5 k3.C "weights" ["self"] (spListF K "_weights") f fd
  factors3 : ∃ f fd, MetD P w K mg base CX0 5 k3.C "factors" ["self"] (spListF K "_factors") f fd
  factors4 : ∃ f fd, MetD P w K mg base CX0 5 k4.C "factors" ["self"] (spListF K "_factors") f fd
  direction4 : ∃ f fd, MetD P w K mg base CX0 5 k4.C "direction" ["self"] (spListF K "_direction") f fd
  holds0 : ∃ f fd, MetD P w K mg base CX0 1 k0.C "holds" ["self"] (spBoolC false) f fd
  t0 : k0.spT = spToldA K ∧ k0.kd = "open" ∧ k0.bv = false
  t1 : k1.spT = spToldA K ∧ k1.kd = "solved" ∧ k1.bv = true
  t2 : k2.spT = spToldA K ∧ k2.kd = "barred" ∧ k2.bv = false
  t3 : k3.spT = spToldT K ∧ k3.kd = "top" ∧ k3.bv = true
  t4 : k4.spT = spToldA K ∧ k4.kd = "endless" ∧ k4.bv = true
  aA : ∀ k ∈ [k0.C, k1.C, k2.C, k3.C, k4.C], PySem.W.kitOne K (.ref k) (.ref k0.C) = some true
  aS : PySem.W.kitOne K (.ref k0.C) (.ref k1.C) = some false ∧ PySem.W.kitOne K (.ref k1.C) (.ref k1.C) = some true ∧ PySem.W.kitOne K (.ref k2.C) (.ref k1.C) = some false ∧ PySem.W.kitOne K (.ref k3.C) (.ref k1.C) = some true ∧ PySem.W.kitOne K (.ref k4.C) (.ref k1.C) = some true
  aT : PySem.W.kitOne K (.ref k2.C) (.ref k3.C) = some false
  r0 : ClX.CRead K k0.C (.type "type") ∧ ∃ u, ClX.CVal K k0.C (.type "type") "KIND" (.str "open") u
  r2 : ClX.CRead K k2.C (.type "type") ∧ ∃ u, ClX.CVal K k2.C (.type "type") "KIND" (.str "barred") u
  r4 : ClX.CRead K k4.C (.type "type") ∧ ∃ u, ClX.CVal K k4.C (.type "type") "KIND" (.str "endless") u
  prob : mg "Problem" = some (.ref CP)
  answer : mg "Answer" = some (.ref k0.C)
  solved : mg "Solved" = some (.ref k1.C)
  barred : mg "Barred" = some (.ref k2.C)
  top_ : mg "Top" = some (.ref k3.C)
  endless : mg "Endless" = some (.ref k4.C)
  isi : mg "isinstance" = none
  bool_ : mg "bool" = none
  rep : mg "repr" = none
  rng : mg "range" = none
abbrev NL : List Str := ["_law_script", "_law_src", "_law_turn", "_law_made", "_law_number", "_law_inner", "_law_given", "_law_k", "_law_kept", "_law_value", "_law_some", "_law_words", "_law_again", "_law_got", "_law_one", "_law_due", "_law_lists", "_law_row", "_law_odd"]
theorem scLaw : FnScope NL ["_law_script"] (defScope sLaw) := ⟨rfl, rfl, rfl, by decide +kernel, rfl, by decide +kernel, by decide +kernel⟩
def spLaw (K : PySem.W.Frag) : Sp := fun vs H Q _ => ∃ (a : Addr) (ns : List Int), vs = [.ref a] ∧ SqL K H a (ns.map V.int) ∧ ns.length ≤ 63 ∧ ∀ H', Q (.bl true) H'
end Lw

set_option maxRecDepth 100000
set_option linter.unusedVariables false
set_option maxHeartbeats 4000000
namespace Lw
open PySem PySem.Spec PyProof.Rows L2 VG
/-! what stands while the law's turn goes on -/
/-- what is drawn: an item of what is given, a value -/
def itD (d : PyData) : Prop := d = .none ∨ d = .int 3 ∨ d = .tuple [.int 1, .int 2] ∨ d = .str "a"
def vaD (d : PyData) : Prop := d = .none ∨ d = .int 3 ∨ d = .str "ab" ∨ d = .bool true
structure GsOk (ds : List PyData) : Prop where
  ex : ∃ gs, ds = gs ++ [.list [.int 1]] ∧ gs.length ≤ 2 ∧ ∀ g ∈ gs, itD g
theorem itD_fit {d : PyData} (h : itD d) (n : Nat) : fit (n + 1) d = true := by
  rcases h with rfl | rfl | rfl | rfl
  · cases n <;> rfl
  · cases n <;> rfl
  · cases n <;> rfl
  · cases n <;> rfl
theorem vaD_fit {d : PyData} (h : vaD d) (n : Nat) : fit n d = true := by
  rcases h with rfl | rfl | rfl | rfl
  · cases n <;> rfl
  · cases n <;> rfl
  · cases n <;> rfl
  · cases n <;> rfl
theorem itD_noL {d : PyData} (h : itD d) : noL d = true := by
  rcases h with rfl | rfl | rfl | rfl <;> rfl
theorem vaD_noL {d : PyData} (h : vaD d) : noL d = true := by
  rcases h with rfl | rfl | rfl | rfl <;> rfl
theorem GsOk.fit {ds : List PyData} (h : GsOk ds) (n : Nat) : VG.fit (n + 2) (.list ds) = true := by
  obtain ⟨gs, rfl, l, a⟩ := h.ex
  show (decide ((gs ++ [PyData.list [.int 1]]).length ≤ 1000) && (gs ++ [PyData.list [.int 1]]).all (VG.fit (n + 1))) = true
  have e1 : (gs ++ [PyData.list [.int 1]]).length ≤ 1000 := by
    rw [List.length_append]
    show gs.length + 1 ≤ 1000
    omega
  rw [decide_eq_true e1, Bool.true_and, List.all_eq_true]
  intro d hd
  rcases List.mem_append.mp hd with hd | hd
  · exact itD_fit (a d hd) n
  · rw [List.mem_singleton.mp hd]
    cases n <;> rfl
theorem GsOk.listD {ds : List PyData} (h : GsOk ds) : Lw.listD (.list ds) = .list ds := rfl
theorem vaD_listD {d : PyData} (h : vaD d) : Lw.listD d = d := by
  rcases h with rfl | rfl | rfl | rfl <;> rfl
/-- the problem's one row, as it is handed in and as the program keeps it -/
def rowIn (n : Int) : PyData := .tuple [.list [.int 1], .int n, .bool false]
def rowPr (n : Int) : PyData := .tuple [.tuple [ratT (1, 1)], ratT (n, 1), .bool false]
theorem row_d (n : Int) : rowD (rowIn n) = rowPr n := rfl
theorem row_ok (n : Int) : rowOk 1 (rowIn n) = true := rfl
theorem row_noL (n : Int) : noLs [rowPr n] = true := rfl
theorem row_wide {n : Int} (h0 : 0 ≤ n) (h9 : n < 9) : wideRow (rowIn n) := by
  show 1 ≤ 1000
  decide
theorem Exs.fresh {S : List Addr} {H G : Hp} {g : Addr} (e : Exs S H G) (h : H g = none) : Same (wos S H) (wos (g :: S) G) := fun b o z => by
  by_cases y : b ∈ S
  · rw [wos_in y] at z
    cases z
  · have z2 := z
    rw [wos_out y] at z2
    have n : b ≠ g := fun x => by
      rw [x, h] at z2
      cases z2
    rw [wos_out fun x => by
      rcases List.mem_cons.mp x with x | x
      · exact n x
      · exact y x]
    exact e.on y z2
theorem exs_off {p D : Addr} {G G' : Hp} {o : HO} (hD : G D = none) (np : D ≠ p) (e : Exs [p] G G') : Exs [p] G (upd G' D o) := fun b u z => by
  have z2 := e b u z
  by_cases y : b ∈ [p]
  · rw [wos_in y] at z
    cases z
  · rw [wos_out y] at z z2 ⊢
    rw [upd_ne (ne_of_none z hD)]
    exact z2
theorem cut1n (xs : List V) : cutV xs none (some (-1)) = xs.dropLast := by
  unfold cutV
  have e : HT.sIx xs.length xs.length (some (-1)) = xs.length - 1 := by
    show (if (-1 : Int) < 0 then ((-1 : Int) + (xs.length : Int)).toNat else min (-1 : Int).toNat xs.length) = _
    rw [if_pos (by decide)]
    omega
  rw [e, HT.sIx_none, List.drop_zero, Nat.sub_zero, List.dropLast_eq_take]
/-- what the five answers say -/
def said (kd tx : Str) (b : Bool) : PyData := .list [.str kd, .str tx, .bool b, .str (("Answer(" ++ tx) ++ ")"), .bool true, .bool true, .bool b]
def saidL (s : Int × Int) : List PyData := [said "open" "open" false, said "solved" "solved" true, said "barred" "barred" false, said "top" (("top" ++ " ") ++ rT s) true, said "endless" "endless" true]
structure Bk (P : Program) (w : World) (K : PySem.W.Frag) (mg : Str → Option Value) (base : Heap) (CP p q : Addr) (ns : List Int) (D I : Addr) (k0 k1 k2 k3 k4 : Kls P w K mg base) (M : Addr) (n : Int) (vn : V) (s : Int × Int) (L8 : Addr) (ds : List PyData) (vv : V) (dv : PyData) (L10 a0 a1 a2 a3 a4 : Addr) (G : Hp) : Prop where
  src : Src G p q ns
  prob : ProbAt K CP (wos [D, I, p] G) M 1 [rowPr n]
  num : Dp K (wos [D, I, p] G) vn (ratT s)
  wd : Wd s
  kept : Dp K (wos [D, I, p] G) (.ref L8) (.list ds)
  gs : GsOk ds
  val : Dp K (wos [D, I, p] G) vv dv
  va : vaD dv
  some_ : wos [D, I, p] G L10 = some (.lst [.ref a0, .ref a1, .ref a2, .ref a3, .ref a4])
  i0 : InsL k0.C a0 (wos [D, I, p] G) (.ref M) []
  i1 : InsL k1.C a1 (wos [D, I, p] G) (.ref M) [("_values", .list ds)]
  i2 : InsL k2.C a2 (wos [D, I, p] G) (.ref M) [("_weights", .list ds)]
  i3 : InsL k3.C a3 (wos [D, I, p] G) (.ref M) [("_values", .list ds), ("_factors", .list ds), ("_weights", dv), ("number", ratT s)]
  i4 : InsL k4.C a4 (wos [D, I, p] G) (.ref M) [("_values", dv), ("_factors", .list ds), ("_direction", .list ds)]
section
variable {P : Program} {w : World} {K : PySem.W.Frag} {mg : Str → Option Value} {base : Heap}
theorem Bk.on {CP p q : Addr} {ns : List Int} {D I : Addr} {k0 k1 k2 k3 k4 : Kls P w K mg base} {M : Addr} {n : Int} {vn : V} {s : Int × Int} {L8 : Addr} {ds : List PyData} {vv : V} {dv : PyData} {L10 a0 a1 a2 a3 a4 : Addr} {G G' : Hp}
    (b : Bk P w K mg base CP p q ns D I k0 k1 k2 k3 k4 M n vn s L8 ds vv dv L10 a0 a1 a2 a3 a4 G) (e : Exs [D, I, p] G G') (hs : Src G' p q ns) : Bk P w K mg base CP p q ns D I k0 k1 k2 k3 k4 M n vn s L8 ds vv dv L10 a0 a1 a2 a3 a4 G' :=
  ⟨hs, b.prob.same e, Dp.same e _ _ b.num, b.wd, Dp.same e _ _ b.kept, b.gs, Dp.same e _ _ b.val, b.va, e _ _ b.some_, b.i0.same e, b.i1.same e, b.i2.same e, b.i3.same e, b.i4.same e⟩
theorem Bk.same {CP p q : Addr} {ns : List Int} {D I : Addr} {k0 k1 k2 k3 k4 : Kls P w K mg base} {M : Addr} {n : Int} {vn : V} {s : Int × Int} {L8 : Addr} {ds : List PyData} {vv : V} {dv : PyData} {L10 a0 a1 a2 a3 a4 : Addr} {G G' : Hp}
    (b : Bk P w K mg base CP p q ns D I k0 k1 k2 k3 k4 M n vn s L8 ds vv dv L10 a0 a1 a2 a3 a4 G) (e : Same G G') : Bk P w K mg base CP p q ns D I k0 k1 k2 k3 k4 M n vn s L8 ds vv dv L10 a0 a1 a2 a3 a4 G' := b.on (Exs.of e) (b.src.on e)
/-- a class's instance, asked by a method -/
theorem InsL.ins {k : Kls P w K mg base} {a M : Addr} {G : Hp} {l : List (Str × PyData)} {S : List Addr} (h : InsL k.C a (wos S G) (.ref M) l) : ∃ dx fs, G a = some (.ins k.C dx fs) ∧ InsA K G a k.C fs ∧ fs.lookup ("_problem" : Str) = some (.ref M) ∧ NoF fs ∧ ∀ e ∈ l, ∃ v, fs.lookup e.1 = some v ∧ Dp K G v e.2 := by
  obtain ⟨dx, fs, h1, h2, h3, h4⟩ := h
  refine ⟨dx, fs, wos_sub _ _ h1, ⟨⟨dx, wos_sub _ _ h1⟩, k.c⟩, h2, h3, fun e he => ?_⟩
  obtain ⟨v, g1, g2⟩ := h4 e he
  exact ⟨v, g1, Dp.same wos_sub _ _ g2.dp⟩
end
end Lw

set_option maxRecDepth 100000
set_option linter.unusedVariables false
set_option maxHeartbeats 4000000
namespace Lw
open PySem PySem.Spec PyProof.Rows L2 VG
open TL (numL)
/-! what the law compares: texts, words cut at spaces, small data -/
theorem strOk_list (z : Str) : PyData.strOk z = z.cps.toList.all (fun c => decide (c < 0x110000)) := by simp [PyData.strOk]
theorem ok_app {x y : Str} (h : PyData.strOk x = true) (g : PyData.strOk y = true) : PyData.strOk (x ++ y) = true := by
  rw [strOk_list] at h g ⊢
  have e : (x ++ y).cps.toList = x.cps.toList ++ y.cps.toList := TL.tl_append x y
  rw [e, List.all_append, h, g]
  rfl
theorem tx_ok {l : List Nat} (h : ∀ c ∈ l, c < 0x110000) : PyData.strOk (Tx l) = true := by
  rw [strOk_list]
  exact List.all_eq_true.mpr fun c hc => decide_eq_true (h c hc)
theorem num_ok (n : Nat) : ∀ c ∈ numL n, c < 0x110000 := fun c hc => by have := TL.numL_digits n c hc; omega
theorem rT_ok (s : Int × Int) : PyData.strOk (rT s) = true := by
  refine tx_ok fun c hc => ?_
  unfold textL topL at hc
  rcases List.mem_append.mp hc with hc | hc
  · rcases List.mem_append.mp hc with hc | hc
    · split at hc
      · rw [List.mem_singleton.mp hc]
        decide
      · cases hc
    · exact num_ok _ c hc
  · split at hc
    · cases hc
    · rcases List.mem_cons.mp hc with rfl | hc
      · decide
      · exact num_ok _ c hc
theorem rT_len {s : Int × Int} (wd : Wd s) : (rT s).length ≤ 122 := by
  unfold rT
  rw [tx_len]
  exact text_len (wd_60 wd).1 (wd_60 wd).2
theorem split_plain {z : Str} (h : 32 ∉ z.cps.toList) : Txt.split z " " = [z] := by
  have e : Txt.split (SX.S z.cps.toList) " " = (TL.spl [32] 0 [] z.cps.toList).map SX.S := SX.split_S (a := z.cps.toList) (b := [32]) (by simp) (by decide)
  rw [TL.spl_last1 h] at e
  exact e
theorem split_top (s : Int × Int) : ∃ r : List Str, Txt.split ("top " ++ rT s) " " = ("top" : Str) :: r ∧ r.length ≤ 200 := by
  have e0 : ("top " : Str) ++ rT s = SX.S ([116, 111, 112] ++ 32 :: textL s.1 s.2) := by
    have e1 : ("top " : Str) = SX.S [116, 111, 112, 32] := by decide +kernel
    rw [e1]
    show SX.S [116, 111, 112, 32] ++ SX.S (textL s.1 s.2) = _
    rw [SX.S_cat]
    rfl
  have e : Txt.split (SX.S ([116, 111, 112] ++ 32 :: textL s.1 s.2)) " " = (TL.spl [32] 0 [] ([116, 111, 112] ++ 32 :: textL s.1 s.2)).map SX.S := SX.split_S (b := [32]) (by simp) (by decide)
  have no : 32 ∉ textL s.1 s.2 := fun hc => by
    unfold textL topL at hc
    rcases List.mem_append.mp hc with hc | hc
    · rcases List.mem_append.mp hc with hc | hc
      · split at hc
        · have := List.mem_singleton.mp hc
          omega
        · cases hc
      · have := TL.numL_digits _ _ hc
        omega
    · split at hc
      · cases hc
      · rcases List.mem_cons.mp hc with hc | hc
        · omega
        · have := TL.numL_digits _ _ hc
          omega
  have e2 := TL.spl_part1 (s := 32) (S := []) (p := [116, 111, 112]) (rest := textL s.1 s.2) (acc := []) (by decide)
  have e3 : TL.spl [32] 0 [] ([116, 111, 112] ++ 32 :: textL s.1 s.2) = [116, 111, 112] :: TL.spl [32] 0 [] (textL s.1 s.2) := e2
  rw [e0, e, e3, TL.spl_last1 no]
  exact ⟨[SX.S (textL s.1 s.2)], by
    have e1 : ("top" : Str) = SX.S [116, 111, 112] := by decide +kernel
    rw [e1]
    rfl, by show 1 ≤ 200; decide⟩
def wdL (s : Int × Int) : List Str := ["open", "solved", "barred", "top " ++ rT s, "endless"]
def dueD (y z : Str) (b : Bool) : PyData := .list [.str y, .str z, .bool b, .str (("Answer(" ++ z) ++ ")"), .bool true, .bool true, .bool b]
theorem word_at {s : Int × Int} (wd : Wd s) (k : Nat) (h : k < 5) : ∃ (y z : Str) (r : List Str) (b : Bool), (wdL s)[k]? = some z ∧ z.length ≤ 130 ∧ Txt.split z " " = y :: r ∧ ([PyData.int 1, .int 3, .int 4].any fun e => PyData.eqv e (.int (k : Int))) = b ∧ (saidL s)[k]? = some (dueD y z b) := by
  rcases (show k = 0 ∨ k = 1 ∨ k = 2 ∨ k = 3 ∨ k = 4 by omega) with rfl | rfl | rfl | rfl | rfl
  · exact ⟨_, _, _, _, rfl, by decide +kernel, split_plain (by decide +kernel), rfl, rfl⟩
  · exact ⟨_, _, _, _, rfl, by decide +kernel, split_plain (by decide +kernel), rfl, rfl⟩
  · exact ⟨_, _, _, _, rfl, by decide +kernel, split_plain (by decide +kernel), rfl, rfl⟩
  · obtain ⟨r, hr, -⟩ := split_top s
    have e4 : ("top " : Str).length = 4 := by decide +kernel
    have e5 : (("top" : Str) ++ " ") = "top " := by decide +kernel
    refine ⟨_, _, r, true, rfl, ?_, hr, rfl, ?_⟩
    · rw [len_app, e4]
      have := rT_len wd
      omega
    · show some (said "top" (("top" ++ " ") ++ rT s) true) = _
      rw [e5]
      rfl
  · exact ⟨_, _, _, _, rfl, by decide +kernel, split_plain (by decide +kernel), rfl, rfl⟩
theorem said_smk {kd tx : Str} {b : Bool} (hk : PyData.strOk kd = true) (lk : kd.length ≤ 150) (ht : PyData.strOk tx = true) (lt : tx.length ≤ 150) : Smk 1 (7 * 201) (said kd tx b) := by
  have c1 : ("Answer(" : Str).length = 7 ∧ (")" : Str).length = 1 ∧ PyData.strOk ("Answer(" : Str) = true ∧ PyData.strOk (")" : Str) = true := by decide +kernel
  refine smk_list (k := 0) (m := 200) (n := 7) (fun d hd => ?_) (Nat.le_refl 7)
  simp only [List.mem_cons, List.not_mem_nil, or_false] at hd
  rcases hd with rfl | rfl | rfl | rfl | rfl | rfl | rfl
  · exact smk_str hk (Nat.le_trans (show kd.cps.size ≤ 150 from lk) (by decide))
  · exact smk_str ht (Nat.le_trans (show tx.cps.size ≤ 150 from lt) (by decide))
  · exact (smk_bool _).up (by decide) (by decide)
  · refine smk_str (ok_app (ok_app c1.2.2.1 ht) c1.2.2.2) ?_
    show (("Answer(" ++ tx) ++ ")").length ≤ 200
    rw [len_app, len_app, c1.1, c1.2.1]
    omega
  · exact (smk_bool _).up (by decide) (by decide)
  · exact (smk_bool _).up (by decide) (by decide)
  · exact (smk_bool _).up (by decide) (by decide)
theorem saidL_sm {s : Int × Int} (wd : Wd s) : Sm (.list (saidL s)) := by
  have c1 : (("top" : Str) ++ " ").length = 4 ∧ PyData.strOk (("top" : Str) ++ " ") = true := by decide +kernel
  refine Smk.Sm (smk_list (k := 1) (m := 7 * 201) (n := 5) (fun d hd => ?_) (Nat.le_refl 5))
  unfold saidL at hd
  simp only [List.mem_cons, List.not_mem_nil, or_false] at hd
  rcases hd with rfl | rfl | rfl | rfl | rfl
  · exact said_smk (by decide +kernel) (by decide +kernel) (by decide +kernel) (by decide +kernel)
  · exact said_smk (by decide +kernel) (by decide +kernel) (by decide +kernel) (by decide +kernel)
  · exact said_smk (by decide +kernel) (by decide +kernel) (by decide +kernel) (by decide +kernel)
  · refine said_smk (by decide +kernel) (by decide +kernel) (ok_app c1.2 (rT_ok s)) ?_
    rw [len_app, c1.1]
    have := rT_len wd
    omega
  · exact said_smk (by decide +kernel) (by decide +kernel) (by decide +kernel) (by decide +kernel)
theorem itD_smk {d : PyData} (h : itD d) : Smk 1 4 d := by
  rcases h with rfl | rfl | rfl | rfl
  · exact ⟨rfl, by decide, by decide⟩
  · exact (smk_int (by decide)).up (by decide) (by decide)
  · exact smk_tup (k := 0) (m := 1) (n := 2) (ds := [.int 1, .int 2]) (fun d hd => by
      simp only [List.mem_cons, List.not_mem_nil, or_false] at hd
      rcases hd with rfl | rfl
      · exact (smk_int (by decide)).up (by decide) (by decide)
      · exact (smk_int (by decide)).up (by decide) (by decide)) (Nat.le_refl 2)
  · exact (smk_str (m := 4) (by decide +kernel) (by decide +kernel)).up (by decide) (by decide)
theorem vaD_smk {d : PyData} (h : vaD d) : Smk 1 4 d := by
  rcases h with rfl | rfl | rfl | rfl
  · exact ⟨rfl, by decide, by decide⟩
  · exact (smk_int (by decide)).up (by decide) (by decide)
  · exact (smk_str (m := 4) (by decide +kernel) (by decide +kernel)).up (by decide) (by decide)
  · exact (smk_bool _).up (by decide) (by decide)
theorem GsOk.smk {ds : List PyData} (h : GsOk ds) : Smk 2 15 (.list ds) := by
  obtain ⟨gs, rfl, l, a⟩ := h.ex
  refine smk_list (k := 1) (m := 4) (n := 3) (fun d hd => ?_) (by rw [List.length_append]; show gs.length + 1 ≤ 3; omega)
  rcases List.mem_append.mp hd with hd | hd
  · exact itD_smk (a d hd)
  · rw [List.mem_singleton.mp hd]
    exact (smk_list (k := 0) (m := 1) (n := 1) (ds := [.int 1]) (fun d hd => by
      rw [List.mem_singleton.mp hd]
      exact (smk_int (by decide)).up (by decide) (by decide)) (Nat.le_refl 1)).up (by decide) (by decide)
theorem rat_smk {s : Int × Int} (wd : Wd s) : Smk 1 2 (ratT s) := smk_tup (k := 0) (m := 0) (n := 2) (ds := [.int s.1, .int s.2]) (fun d hd => by
  simp only [List.mem_cons, List.not_mem_nil, or_false] at hd
  have b : (10 : Nat) ^ 18 + 1 < 10 ^ 90 := by decide
  rcases hd with rfl | rfl
  · exact smk_int (Nat.lt_trans wd.a b)
  · exact smk_int (Nat.lt_trans wd.b b)) (Nat.le_refl 2)
theorem six_sm {ds : List PyData} (h : GsOk ds) : Sm (.list [.list ds, .list ds, .list ds, .list ds, .list ds, .list ds]) :=
  Smk.Sm (smk_list (k := 2) (m := 15) (n := 6) (fun d hd => by
    simp only [List.mem_cons, List.not_mem_nil, or_false, or_self] at hd
    rw [hd]
    exact h.smk) (Nat.le_refl 6))
theorem three_sm {dv : PyData} {s : Int × Int} (h : vaD dv) (wd : Wd s) : Sm (.list [dv, dv, ratT s]) :=
  Smk.Sm (smk_list (k := 1) (m := 4) (n := 3) (fun d hd => by
    simp only [List.mem_cons, List.not_mem_nil, or_false] at hd
    rcases hd with rfl | rfl | rfl
    · exact vaD_smk h
    · exact vaD_smk h
    · exact (rat_smk wd).up (by decide) (by decide)) (Nat.le_refl 3))
/-! six new lists -/
abbrev Row3 := Addr × Addr × List V
def flat6 (fp : List Row3) : List Addr := fp.flatMap fun r => [r.1, r.2.1]
def RowA (G : Hp) (r : Row3) : Prop := G r.1 = some (.lst (r.2.2 ++ [.ref r.2.1])) ∧ G r.2.1 = some (.lst [.int 1]) ∧ r.2.2.length ≤ 2
structure Rws (G0 G : Hp) (ds : List PyData) (fp : List Row3) : Prop where
  same : Same G0 G
  at_ : ∀ r ∈ fp, RowA G r
  nd : (flat6 fp).Nodup
  new : ∀ b ∈ flat6 fp, G0 b = none
  dq : ∀ r ∈ fp, Dq G (.ref r.1) (.list ds)
theorem RowA.same {G G' : Hp} {r : Row3} (s : Same G G') (h : RowA G r) : RowA G' r := ⟨s _ _ h.1, s _ _ h.2.1, h.2.2⟩
theorem Rws.start {G : Hp} {ds : List PyData} : Rws G G ds [] := ⟨Same.refl G, fun r h => (by cases h), .nil, fun b h => (by cases h), fun r h => (by cases h)⟩
theorem Rws.on {G0 G G' : Hp} {ds : List PyData} {fp : List Row3} (h : Rws G0 G ds fp) (s : Same G G') : Rws G0 G' ds fp := ⟨h.same.trans s, fun r hr => (h.at_ r hr).same s, h.nd, h.new, fun r hr => (h.dq r hr).same s⟩
theorem flat_mem {fp : List Row3} {b : Addr} (h : b ∈ flat6 fp) : ∃ r ∈ fp, b = r.1 ∨ b = r.2.1 := by
  obtain ⟨r, hr, hb⟩ := List.mem_flatMap.mp h
  simp only [List.mem_cons, List.not_mem_nil, or_false] at hb
  exact ⟨r, hr, hb⟩
theorem Rws.some_ {G0 G : Hp} {ds : List PyData} {fp : List Row3} (h : Rws G0 G ds fp) {b : Addr} (hb : b ∈ flat6 fp) : ∃ o, G b = some o := by
  obtain ⟨r, hr, e⟩ := flat_mem hb
  rcases e with rfl | rfl
  · exact ⟨_, (h.at_ r hr).1⟩
  · exact ⟨_, (h.at_ r hr).2.1⟩
theorem dqAll_snoc {H : Hp} : ∀ {gs : List PyData} {d : PyData} {xs : List V}, DqAll H xs (gs ++ [d]) → ∃ ys y, xs = ys ++ [y] ∧ ys.length = gs.length ∧ Dq H y d
  | [], d, _, .cons h .nil => ⟨[], _, rfl, rfl, h⟩
  | g :: gs, d, _, .cons h t => by
    obtain ⟨ys, y, e, l, hy⟩ := dqAll_snoc (gs := gs) t
    exact ⟨_ :: ys, y, by rw [e]; rfl, congrArg (· + 1) l, hy⟩
theorem Rws.more {G0 G G' : Hp} {ds : List PyData} {fp : List Row3} {z : V} (h : Rws G0 G ds fp) (g : GsOk ds) (s : Same G G') (hz : Dq (newer G G') z (.list ds)) : ∃ r : Row3, z = .ref r.1 ∧ Rws G0 G' ds (fp ++ [r]) := by
  obtain ⟨gs, rfl, l, -⟩ := g.ex
  have sub : Same (newer G G') G' := fun b o e => by
    cases q : G b with
    | some x =>
      rw [newer_none q] at e
      cases e
    | none =>
      rw [newer_at q] at e
      exact e
  have fresh : ∀ {b : Addr} {o : HO}, newer G G' b = some o → G b = none := fun {b o} e => by
    cases q : G b with
    | some x =>
      rw [newer_none q] at e
      cases e
    | none => rfl
  have hz0 := hz
  cases hz with
  | @lst A xs _ hA hd =>
    obtain ⟨ys, y, rfl, ly, hy⟩ := dqAll_snoc hd
    cases hy with
    | @lst B us _ hB hu =>
      cases hu with
      | cons h1 t =>
        cases h1
        cases t
        have nAB : A ≠ B := fun e => by
          rw [e, hB] at hA
          have q := HO.lst.inj (Option.some.inj hA)
          have q2 := congrArg List.reverse q
          rw [List.reverse_append] at q2
          cases q2
        refine ⟨(A, B, ys), rfl, h.same.trans s, fun r hr => ?_, ?_, fun b hb => ?_, fun r hr => ?_⟩
        · rcases List.mem_append.mp hr with hr | hr
          · exact (h.at_ r hr).same s
          · rw [List.mem_singleton.mp hr]
            exact ⟨sub _ _ hA, sub _ _ hB, by show ys.length ≤ 2; omega⟩
        · have e : flat6 (fp ++ [(A, B, ys)]) = flat6 fp ++ [A, B] := by
            unfold flat6
            rw [List.flatMap_append]
            rfl
          rw [e]
          refine List.nodup_append.mpr ⟨h.nd, ?_, fun a ha b hb z => ?_⟩
          · exact List.nodup_cons.mpr ⟨fun m => nAB (List.mem_singleton.mp m), List.nodup_cons.mpr ⟨by simp, .nil⟩⟩
          · obtain ⟨o, ho⟩ := h.some_ ha
            simp only [List.mem_cons, List.not_mem_nil, or_false] at hb
            rcases hb with hb | hb
            · rw [z, hb, fresh hA] at ho
              cases ho
            · rw [z, hb, fresh hB] at ho
              cases ho
        · have e : flat6 (fp ++ [(A, B, ys)]) = flat6 fp ++ [A, B] := by
            unfold flat6
            rw [List.flatMap_append]
            rfl
          rw [e] at hb
          rcases List.mem_append.mp hb with hb | hb
          · exact h.new b hb
          · simp only [List.mem_cons, List.not_mem_nil, or_false] at hb
            rcases hb with rfl | rfl
            · exact h.same.free (fresh hA)
            · exact h.same.free (fresh hB)
        · rcases List.mem_append.mp hr with hr | hr
          · exact (h.dq r hr).same s
          · rw [List.mem_singleton.mp hr]
            exact hz0.same sub
/-- while the rows are changed, one by one -/
structure Chg (G0 G : Hp) (L : Addr) (us : List V) (fp : List Row3) : Prop where
  same : Same G0 G
  lst : G L = some (.lst us)
  out : L ∉ flat6 fp
  at_ : ∀ r ∈ fp, RowA G r
  nd : (flat6 fp).Nodup
  new : ∀ b ∈ flat6 fp, G0 b = none
theorem flat_cons {r : Row3} {fp : List Row3} : flat6 (r :: fp) = r.1 :: r.2.1 :: flat6 fp := rfl
theorem mem_flat {r : Row3} {fp : List Row3} (h : r ∈ fp) : r.1 ∈ flat6 fp ∧ r.2.1 ∈ flat6 fp := ⟨List.mem_flatMap.mpr ⟨r, h, by simp⟩, List.mem_flatMap.mpr ⟨r, h, by simp⟩⟩
theorem Chg.step {G0 G : Hp} {L : Addr} {us : List V} {fp : List Row3} {r : Row3} {o1 o2 : HO} (h : Chg G0 G L us (r :: fp)) : Chg G0 (upd (upd G r.2.1 o1) r.1 o2) L us fp := by
  have nd := h.nd
  rw [flat_cons] at nd
  obtain ⟨n1, nd⟩ := List.nodup_cons.mp nd
  obtain ⟨n2, nd⟩ := List.nodup_cons.mp nd
  have o := h.out
  rw [flat_cons] at o
  have w := h.new
  rw [flat_cons] at w
  refine ⟨fun b u e => ?_, ?_, fun m => o (List.mem_cons_of_mem _ (List.mem_cons_of_mem _ m)), fun q hq => ?_, nd, fun b hb => w b (List.mem_cons_of_mem _ (List.mem_cons_of_mem _ hb))⟩
  · have z1 : b ≠ r.1 := fun z => by
      rw [z, w _ List.mem_cons_self] at e
      cases e
    have z2 : b ≠ r.2.1 := fun z => by
      rw [z, w _ (List.mem_cons_of_mem _ List.mem_cons_self)] at e
      cases e
    rw [upd_ne z1, upd_ne z2]
    exact h.same _ _ e
  · rw [upd_ne fun z => o (by rw [z]; exact List.mem_cons_self), upd_ne fun z => o (by rw [z]; exact List.mem_cons_of_mem _ List.mem_cons_self)]
    exact h.lst
  · have m := mem_flat hq
    obtain ⟨a, b, c⟩ := h.at_ q (List.mem_cons_of_mem _ hq)
    refine ⟨?_, ?_, c⟩
    · rw [upd_ne fun z => n1 (by rw [← z]; exact List.mem_cons_of_mem _ m.1), upd_ne fun z => n2 (by rw [← z]; exact m.1)]
      exact a
    · rw [upd_ne fun z => n1 (by rw [← z]; exact List.mem_cons_of_mem _ m.2), upd_ne fun z => n2 (by rw [← z]; exact m.2)]
      exact b
theorem Chg.on {G0 G G' : Hp} {L : Addr} {us : List V} {fp : List Row3} (h : Chg G0 G L us fp) (s : Same G G') : Chg G0 G' L us fp := ⟨h.same.trans s, s _ _ h.lst, h.out, fun r hr => (h.at_ r hr).same s, h.nd, h.new⟩
theorem Rws.chg {G0 G : Hp} {ds : List PyData} {fp : List Row3} {L : Addr} {us : List V} (h : Rws G0 G ds fp) (hL : G L = none) : Chg G0 (upd G L (.lst us)) L us fp :=
  have no : L ∉ flat6 fp := fun m => by
    obtain ⟨o, ho⟩ := h.some_ m
    rw [hL] at ho
    cases ho
  ⟨h.same.trans (same_upd hL), upd_same, no, fun r hr => (h.at_ r hr).same (same_upd hL), h.nd, h.new⟩
theorem rows_dp {K : PySem.W.Frag} {G : Hp} {d : PyData} : ∀ {fp : List Row3}, (∀ r ∈ fp, Dq G (.ref r.1) d) → DpAll K G (fp.map fun r => V.ref r.1) (List.replicate fp.length d)
  | [], _ => .nil
  | r :: fp, h => .cons (h r List.mem_cons_self).dp (rows_dp fun q hq => h q (List.mem_cons_of_mem _ hq))
def noF (m : Str) : Bool := decide (¬ m = "_problem") && decide (¬ m = "_values") && decide (¬ m = "_weights") && decide (¬ m = "_factors") && decide (¬ m = "_direction") && decide (¬ m = "number")
theorem NoF.get {fs : List (Str × V)} (h : NoF fs) {m : Str} (e : noF m = true) : fs.lookup m = none := by
  simp only [noF, Bool.and_eq_true, decide_eq_true_eq] at e
  obtain ⟨⟨⟨⟨⟨h1, h2⟩, h3⟩, h4⟩, h5⟩, h6⟩ := e
  exact h m h1 h2 h3 h4 h5 h6
section
variable {P : Program} {w : World} {K : PySem.W.Frag} {mg : Str → Option Value} {base : Heap}
theorem InsL.ask {k : Kls P w K mg base} {x M : Addr} {G : Hp} {l : List (Str × PyData)} {S : List Addr} (h : InsL k.C x (wos S G) (.ref M) l) {e : Str × PyData} (he : e ∈ l) (hf : VG.fit 3 e.2 = true) {Q : VK} {E : XK} (q : ∀ z H', Same G H' → Dq (newer G H') z (listD e.2) → Q z H') : spListF K e.1 [.ref x] G Q E := by
  obtain ⟨dx, fs, hx, ia, lp, nf, fld⟩ := h.ins
  obtain ⟨v, ln, dn⟩ := fld e he
  exact ⟨x, k.C, fs, v, e.2, rfl, ia, ln, dn, hf, q⟩
end
end Lw

set_option maxRecDepth 100000
set_option linter.unusedVariables false
set_option maxHeartbeats 4000000
namespace Lw
open PySem PySem.Spec PyProof.Rows L2 VG
section
variable {P : Program} {w : World} {K : PySem.W.Frag} {mg : Str → Option Value} {base : Heap}
theorem ok_law {f CP gA gS : Addr} {k0 k1 k2 k3 k4 : Kls P w K mg base} {fd : FuncData} (F : Fun K "law" "law" sLaw f fd) (T : LawT P w K mg base CP gA gS k0 k1 k2 k3 k4) : FnG P w K mg base CX0 10 f fd ["_law_script"] (spLaw K) := by
  obtain ⟨fS, dS, GS⟩ := T.src
  obtain ⟨fD, dD, GD⟩ := T.draw
  obtain ⟨fO, dO, GO⟩ := T.of_
  obtain ⟨fE, dE, GE, mE, kE, bE⟩ := T.same
  obtain ⟨fW, dW, GW⟩ := T.wide
  obtain ⟨fT, dT, GT⟩ := T.text
  obtain ⟨fP, dP, GIP, MIP, bIP⟩ := T.initP
  obtain ⟨fQ, GQ⟩ := T.eqP
  obtain ⟨f0, d0, GI0, MI0, bI0⟩ := T.i0
  obtain ⟨f1, d1, GI1, MI1, bI1⟩ := T.i1
  obtain ⟨f2, d2, GI2, MI2, bI2⟩ := T.i2
  obtain ⟨f3, d3, GI3, MI3, bI3⟩ := T.i3
  obtain ⟨f4, d4, GI4, MI4, kI4⟩ := T.i4
  obtain ⟨_, _, GN1⟩ := T.numbers1
  obtain ⟨_, _, GN3⟩ := T.numbers3
  obtain ⟨_, _, GN4⟩ := T.numbers4
  obtain ⟨_, _, GW2⟩ := T.weights2
  obtain ⟨_, _, GW3⟩ := T.weights3
  obtain ⟨_, _, GF3⟩ := T.factors3
  obtain ⟨_, _, GF4⟩ := T.factors4
  obtain ⟨_, _, GD4⟩ := T.direction4
  obtain ⟨_, _, GH⟩ := T.holds0
  refine okG F scLaw (fun vs H Q E h => ?_) (fun cdv A outer s H vs Q E hG hr h => ?_)
  · obtain ⟨a, ns, rfl, _⟩ := h
    rfl
  · obtain ⟨a, ns, rfl, hS, hlen, k⟩ := h
    have nd := scLaw.nd
    have hun := hr.units
    have hu65 : A.units + 3 + 65 < cLine := by
      have := hr.un
      simp only [PySem.Around.deeper_units] at this
      omega
    have hr1 : Room 1 _ := hr.mono (by decide)
    have hr2 : Room 2 _ := hr.mono (by decide)
    have hr3 : Room 3 _ := hr.mono (by decide)
    have hr5 : Room 5 _ := hr.mono (by decide)
    have hr7 : Room 7 _ := hr.mono (by decide)
    have hr8 : Room 8 _ := hr.mono (by decide)
    refine ⟨_, (pss_cons (ps_set (i := 1) nd rfl (by first | exact Or.inl rfl | exact Or.inr rfl) (pe_call GS.ok hr1 (by rfl) GS.at_ GS.kp GS.bd .nil pass0 (pa_cons (pv 0) pa_nil)))
      (C8.pss_cut (ps_for PassesOwn.never rfl (pi_range1 (by rfl) T.rng (pa_cons pe_int pa_nil)) (pg_name (i := 2) nd rfl (by first | exact Or.inl rfl | exact Or.inr rfl))
        (C8.pss_cut (ps_set (i := 3) nd rfl (by first | exact Or.inl rfl | exact Or.inr rfl) (pe_make MIP GIP hr8 (by rfl) T.prob bIP .nil pass0 (pa_cons pe_int (pa_cons (pe_lst (pa_cons (pe_tup (pa_cons (pe_lst (pa_cons pe_int pa_nil)) (pa_cons (pe_call GD.ok hr1 (by rfl) GD.at_ GD.kp GD.bd .nil pass0 (pa_cons (pv 1) (pa_cons pe_int pa_nil))) (pa_cons pe_bl pa_nil)))) pa_nil)) pa_nil))))
      (C8.pss_cut (ps_set (i := 4) nd rfl (by first | exact Or.inl rfl | exact Or.inr rfl) (pe_call GW.ok hr2 (by rfl) GW.at_ GW.kp GW.bd .nil pass0 (pa_cons (pv 1) pa_nil)))
      (C8.pss_cut (ps_set (i := 5) nd rfl (by first | exact Or.inl rfl | exact Or.inr rfl) (pe_lst (pa_cons pe_int pa_nil)))
      (C8.pss_cut (ps_set (i := 6) nd rfl (by first | exact Or.inl rfl | exact Or.inr rfl) (pe_op op_cat (pe_lc (own := [("_law_k", 7)]) (g := (gName 7)) (tt := tYes) rfl nd (pi_range1 (by rfl) T.rng (pa_cons (pe_call GD.ok hr1 (by rfl) GD.at_ GD.kp GD.bd .nil pass0 (pa_cons (pv 1) (pa_cons pe_int pa_nil))) pa_nil)) (blkOk_by (own := [("_law_k", 7)]) (N := NL) (sc := defScope sLaw) (by decide +kernel)) (fun _ _ _ _ _ => (pg_name (i := 7) nd rfl (by first | exact Or.inl rfl | exact Or.inr rfl))) (fun _ _ _ _ _ => pts_nil)
          (fun _ _ _ _ _ => (pe_call GO.ok hr2 (by rfl) GO.at_ GO.kp GO.bd .nil pass0 (pa_cons (pv 1) (pa_cons (pe_lst (pa_cons pe_non (pa_cons pe_int (pa_cons (pe_tup (pa_cons pe_int (pa_cons pe_int pa_nil))) (pa_cons pe_str pa_nil))))) pa_nil))))) (pe_lst (pa_cons (pv 5) pa_nil))))
      (C8.pss_cut (ps_par (i := 8) (j := 9) (by rfl) nd rfl rfl (by decide) rfl rfl (pa_cons (pe_op op_cat (pe_slice sl_list (pv 6) po_none (po_some (pe_un un_neg pe_int))) (pe_lst (pa_cons (pe_lst (pa_cons pe_int pa_nil)) pa_nil))) (pa_cons (pe_call GO.ok hr2 (by rfl) GO.at_ GO.kp GO.bd .nil pass0 (pa_cons (pv 1) (pa_cons (pe_lst (pa_cons pe_non (pa_cons pe_int (pa_cons pe_str (pa_cons pe_bl pa_nil))))) pa_nil))) pa_nil)) (by rfl))
      (C8.pss_cut (ps_set (i := 10) nd rfl (by first | exact Or.inl rfl | exact Or.inr rfl) (pe_lst (pa_cons (pe_make MI0 GI0 (hr.mono (by decide)) (by rfl) T.answer bI0 .nil pass0 (pa_cons (pv 3) pa_nil)) (pa_cons (pe_make MI1 GI1 (hr.mono (by decide)) (by rfl) T.solved bI1 .nil pass0 (pa_cons (pv 3) (pa_cons (pv 6) pa_nil))) (pa_cons (pe_make MI2 GI2 (hr.mono (by decide)) (by rfl) T.barred bI2 .nil pass0 (pa_cons (pv 3) (pa_cons (pv 6) pa_nil))) (pa_cons (pe_make MI3 GI3 (hr.mono (by decide)) (by rfl) T.top_ bI3 .nil pass0 (pa_cons (pv 3) (pa_cons (pv 6) (pa_cons (pv 4) (pa_cons (pv 6) (pa_cons (pv 9) pa_nil)))))) (pa_cons (pe_makeK0 MI4 GI4 (hr.mono (by decide)) (by rfl) T.endless kI4 pass0 (pk_cons (pv 9) (pk_cons (pv 6) (pk_cons (pv 3) (pk_cons (pv 6) pk_nil))))) pa_nil)))))))
      (C8.pss_cut (ps_expr (pe_bm PySem.F.plainAttrs_list PySem.F.slot_list_append PySem.F.type_list_append mt_append (pv 6) (pa_cons pe_str pa_nil)))
      (C8.pss_cut (ps_expr (pe_bm PySem.F.plainAttrs_list PySem.F.slot_list_append PySem.F.type_list_append mt_append (pv 5) (pa_cons pe_str pa_nil)))
      (C8.pss_cut (ps_set (i := 11) nd rfl (by first | exact Or.inl rfl | exact Or.inr rfl) (pe_lst (pa_cons pe_str (pa_cons pe_str (pa_cons pe_str (pa_cons (pe_op op_add_str pe_str (pe_call GT.ok hr2 (by rfl) GT.at_ GT.kp GT.bd .nil pass0 (pa_cons (pv 4) pa_nil))) (pa_cons pe_str pa_nil)))))))
      (C8.pss_cut (ps_for PassesOwn.never rfl (pi_range1 (by rfl) T.rng (pa_cons pe_int pa_nil)) (pg_name (i := 12) nd rfl (by first | exact Or.inl rfl | exact Or.inr rfl)) (C8.pss_cut (ps_setLc (i := 13) (own := [("_law_one", 14)]) (g := (gName 14)) (tt := tYes) (by rfl) nd rfl rfl (sw_true rfl rfl rfl (by decide +kernel)) (pi_list (pv 10)) (blkOk_by (own := [("_law_one", 14)]) (N := NL) (sc := defScope sLaw) (by decide +kernel)) (fun _ _ _ _ _ => (pg_name (i := 14) nd rfl (by first | exact Or.inl rfl | exact Or.inr rfl))) (fun _ _ _ _ _ => pts_nil)
          (fun _ _ _ _ _ => (pe_anyK P w K mg base fun i => (pe_lst (pa_cons (show PE _ _ (tCon K (tVar 14) "KIND") from pe_con (pv 14) rfl) (pa_cons (pe_meth0 (E := E0) (pv 14) i.c.cl i.told.at_ i.told.ok (hr.mono (by decide)) i.told.bd .nil pass0) (pa_cons (pe_callTy (call_boolO (E := E0) i.bool_.at_ i.bool_.fn i.bool_.ok (hr.mono (by decide)) pass0) (by rfl) T.bool_ (by decide +kernel) (pa_cons (pv 14) pa_nil)) (pa_cons (pe_callB (call_reprO (E := E0) i.repr_.at_ i.repr_.fn i.repr_.ok (hr.mono (by decide)) pass0) (by rfl) T.rep (by decide +kernel) (pa_cons (pv 14) pa_nil)) (pa_cons (pe_cmpR (show OpR _ _ (rEqO K CP (spEqP K CP) E0) from op_eqO GQ.at_ GQ.fn GQ.ok (hr.mono (by decide)) pass0) (pe_prop (E := E0) (pv 14) i.c.cl i.prop i.prob (hr.mono (by decide)) i.bP .nil pass0 rfl) (pv 3) (nomark _)) (pa_cons (pe_callB (show CallR _ _ (rIsi K) from call_isi) (by rfl) T.isi (by decide +kernel) (pa_cons (pv 14) (pa_cons (pe_glob (v := .ref k0.C) (by rfl) T.answer rfl) pa_nil))) (pa_cons (pe_callB (show CallR _ _ (rIsi K) from call_isi) (by rfl) T.isi (by decide +kernel) (pa_cons (pv 14) (pa_cons (pe_glob (v := .ref k1.C) (by rfl) T.solved rfl) pa_nil))) pa_nil)))))))))))
      (C8.pss_cut (ps_setLc (i := 15) (own := [("_law_k", 7)]) (g := (gName 7)) (tt := tYes) (by rfl) nd rfl rfl (sw_true rfl rfl rfl (by decide +kernel)) (pi_range1 (by rfl) T.rng (pa_cons pe_int pa_nil)) (blkOk_by (own := [("_law_k", 7)]) (N := NL) (sc := defScope sLaw) (by decide +kernel)) (fun _ _ _ _ _ => (pg_name (i := 7) nd rfl (by first | exact Or.inl rfl | exact Or.inr rfl))) (fun _ _ _ _ _ => pts_nil)
          (fun _ _ _ _ _ => (pe_lst (pa_cons (pe_ix (show IxR _ (rIxL K) from ix_list) (pe_split (pe_ix (show IxR _ (rIxL K) from ix_list) (pv 11) (pv 7) fun _ _ => rfl) pe_str) pe_int fun _ _ => rfl) (pa_cons (pe_ix (show IxR _ (rIxL K) from ix_list) (pv 11) (pv 7) fun _ _ => rfl) (pa_cons (pe_cmpR (show OpR _ _ (rInT K false) from op_inT hu65) (pv 7) (pe_tup (pa_cons pe_int (pa_cons pe_int (pa_cons pe_int pa_nil)))) (by with_unfolding_all rfl)) (pa_cons (pe_op op_add_str (pe_op op_add_str pe_str (pe_ix (show IxR _ (rIxL K) from ix_list) (pv 11) (pv 7) fun _ _ => rfl)) pe_str) (pa_cons pe_bl (pa_cons pe_bl (pa_cons (pe_cmpR (show OpR _ _ (rInT K false) from op_inT hu65) (pv 7) (pe_tup (pa_cons pe_int (pa_cons pe_int (pa_cons pe_int pa_nil)))) (by with_unfolding_all rfl)) pa_nil))))))))))
      (C8.pss_cut (ps_if (PW.pt (pw_or (pt_not (pt_val (pe_callG GE hG hr1 (by rfl) mE kE bE .nil pass0 (pa_cons (pv 13) (pa_cons (pv 15) pa_nil))))) (pw_or1 (pt_cmpR op_isnotB (pe_meth0 (E := E0) (pe_ix (show IxR _ (rIxL K) from ix_list) (pv 10) pe_int fun _ _ => rfl) k0.c.cl GH.at_ GH.ok (hr.mono (by decide)) GH.bd .nil pass0) pe_bl (by with_unfolding_all rfl))))) (pss_one (ps_ret pe_bl)) pss_nil)
      (C8.pss_cut (ps_set (i := 16) nd rfl (by first | exact Or.inl rfl | exact Or.inr rfl) (pe_lst (pa_cons (pe_meth0 (E := E0) (pe_ix (show IxR _ (rIxL K) from ix_list) (pv 10) pe_int fun _ _ => rfl) k1.c.cl GN1.at_ GN1.ok (hr.mono (by decide)) GN1.bd .nil pass0) (pa_cons (pe_meth0 (E := E0) (pe_ix (show IxR _ (rIxL K) from ix_list) (pv 10) pe_int fun _ _ => rfl) k2.c.cl GW2.at_ GW2.ok (hr.mono (by decide)) GW2.bd .nil pass0) (pa_cons (pe_meth0 (E := E0) (pe_ix (show IxR _ (rIxL K) from ix_list) (pv 10) pe_int fun _ _ => rfl) k3.c.cl GF3.at_ GF3.ok (hr.mono (by decide)) GF3.bd .nil pass0) (pa_cons (pe_meth0 (E := E0) (pe_ix (show IxR _ (rIxL K) from ix_list) (pv 10) pe_int fun _ _ => rfl) k3.c.cl GN3.at_ GN3.ok (hr.mono (by decide)) GN3.bd .nil pass0) (pa_cons (pe_meth0 (E := E0) (pe_ix (show IxR _ (rIxL K) from ix_list) (pv 10) pe_int fun _ _ => rfl) k4.c.cl GF4.at_ GF4.ok (hr.mono (by decide)) GF4.bd .nil pass0) (pa_cons (pe_meth0 (E := E0) (pe_ix (show IxR _ (rIxL K) from ix_list) (pv 10) pe_int fun _ _ => rfl) k4.c.cl GD4.at_ GD4.ok (hr.mono (by decide)) GD4.bd .nil pass0) pa_nil))))))))
      (C8.pss_cut (ps_if (PW.pt (pw_or (pt_not (pt_val (pe_callG GE hG hr1 (by rfl) mE kE bE .nil pass0 (pa_cons (pv 16) (pa_cons (pe_op op_rep (pe_lst (pa_cons (pv 8) pa_nil)) pe_int) pa_nil))))) (pw_or1 (pt_not (pt_val (pe_callG GE hG hr1 (by rfl) mE kE bE .nil pass0 (pa_cons (pe_lst (pa_cons (pe_meth0 (E := E0) (pe_ix (show IxR _ (rIxL K) from ix_list) (pv 10) pe_int fun _ _ => rfl) k3.c.cl GW3.at_ GW3.ok (hr.mono (by decide)) GW3.bd .nil pass0) (pa_cons (pe_meth0 (E := E0) (pe_ix (show IxR _ (rIxL K) from ix_list) (pv 10) pe_int fun _ _ => rfl) k4.c.cl GN4.at_ GN4.ok (hr.mono (by decide)) GN4.bd .nil pass0) (pa_cons (pe_fld (pe_ix (show IxR _ (rIxL K) from ix_list) (pv 10) pe_int fun _ _ => rfl) rfl) pa_nil)))) (pa_cons (pe_lst (pa_cons (pv 9) (pa_cons (pv 9) (pa_cons (pv 4) pa_nil)))) pa_nil)))))))) (pss_one (ps_ret pe_bl)) pss_nil)
      (pss_one (ps_for PassesOwn.never rfl (pi_list (pv 16)) (pg_name (i := 17) nd rfl (by first | exact Or.inl rfl | exact Or.inr rfl)) (pss_cons (ps_expr (pe_bm PySem.F.plainAttrs_list PySem.F.slot_list_append PySem.F.type_list_append mt_append (pe_ix (show IxR _ (rIxL K) from ix_list) (pv 17) (pe_un un_neg pe_int) fun _ _ => rfl) (pa_cons pe_str pa_nil))) (pss_one (ps_expr (pe_bm PySem.F.plainAttrs_list PySem.F.slot_list_append PySem.F.type_list_append mt_append (pv 17) (pa_cons pe_str pa_nil)))))))))))))
      (C8.pss_cut (ps_set (i := 18) nd rfl (by first | exact Or.inl rfl | exact Or.inr rfl) (pe_call GO.ok hr2 (by rfl) GO.at_ GO.kp GO.bd .nil pass0 (pa_cons (pv 1) (pa_cons (pe_lst (pa_cons pe_non (pa_cons pe_int (pa_cons pe_str (pa_cons (pe_lst (pa_cons pe_int (pa_cons pe_int pa_nil))) pa_nil))))) pa_nil))))
      (pss_one (ps_if (PW.pt (pw_or (pt_cmpR op_ne (pe_meth0 (E := E0) (pe_make MI3 GI3 (hr.mono (by decide)) (by rfl) T.top_ bI3 .nil pass0 (pa_cons (pv 3) (pa_cons (pe_lst pa_nil) (pa_cons (pv 18) (pa_cons (pe_lst pa_nil) (pa_cons (pe_lst pa_nil) pa_nil)))))) k3.c.cl k3.told.at_ k3.told.ok (hr.mono (by decide)) k3.told.bd .nil pass0) pe_str (by with_unfolding_all rfl)) (pw_or1 (pt_cmpR (op_neD hun) (pe_meth0 (E := E0) (pe_make MI1 GI1 (hr.mono (by decide)) (by rfl) T.solved bI1 .nil pass0 (pa_cons (pv 3) (pa_cons (pe_tup (pa_cons pe_int (pa_cons pe_non pa_nil))) pa_nil))) k1.c.cl GN1.at_ GN1.ok (hr.mono (by decide)) GN1.bd .nil pass0) (pe_lst (pa_cons pe_int (pa_cons pe_non pa_nil))) (by with_unfolding_all rfl))))) (pss_one (ps_ret pe_bl)) pss_nil))))))))))))))
      (pss_one (ps_ret (pe_and (pe_cmpR (op_eqD hun) (pe_lst (pa_cons (ClX.pe_cval (pe_glob (v := .ref k0.C) (by rfl) T.answer rfl)) (pa_cons (ClX.pe_cval (pe_glob (v := .ref k2.C) (by rfl) T.barred rfl)) (pa_cons (ClX.pe_cval (pe_glob (v := .ref k4.C) (by rfl) T.endless rfl)) pa_nil)))) (pe_lst (pa_cons pe_str (pa_cons pe_str (pa_cons pe_str pa_nil)))) (by with_unfolding_all rfl)) (pe_one (pe_not (pe_callB (show CallR _ _ (rIsi K) from call_isi) (by rfl) T.isi (by decide +kernel) (pa_cons (pe_ix (show IxR _ (rIxL K) from ix_list) (pv 10) pe_int fun _ _ => rfl) (pa_cons (pe_glob (v := .ref k3.C) (by rfl) T.top_ rfl) pa_nil)))))))))), ?_⟩
    refine ⟨_, rfl, a, ns, rfl, hS, hlen, fun p q H1 hp0 hq0 sm1 S1 => ?_⟩
    have out : ∀ {G : Hp} {D : Addr}, Src G p q ns → G D = none → D ∉ [p] := fun {G D} s h m => (s.out h).1 (List.mem_singleton.mp m)
    refine ⟨fun σ G => ∃ o2 o3 o4 o5 o6 o7 o8 o9 o11 o12 o13 o14 o15 o16 o17 o18 : Option V, ∃ L10 a0 a1 a2 a3 a4 : Addr, σ = [some (.ref a), some (.ref p), o2, o3, o4, o5, o6, o7, o8, o9, some (.ref L10), o11, o12, o13, o14, o15, o16, o17, o18] ∧ G L10 = some (.lst [.ref a0, .ref a1, .ref a2, .ref a3, .ref a4]) ∧ ∃ dx fs, G a2 = some (.ins k2.C dx fs), ?_, ?_⟩
    · refine ⟨3, rfl, by decide, by decide, for_range (lo := 0) (n := 3) (fun i σ G => ∃ o2 o3 o4 o5 o6 o7 o8 o9 o11 o12 o13 o14 o15 o16 o17 o18 : Option V, ∃ o10 : Option V, σ = [some (.ref a), some (.ref p), o2, o3, o4, o5, o6, o7, o8, o9, o10, o11, o12, o13, o14, o15, o16, o17, o18] ∧ Src G p q ns ∧ (0 < i → ∃ L10 a0 a1 a2 a3 a4 : Addr, o10 = some (.ref L10) ∧ G L10 = some (.lst [.ref a0, .ref a1, .ref a2, .ref a3, .ref a4]) ∧ ∃ dx fs, G a2 = some (.ins k2.C dx fs)))
        ⟨none, none, none, none, none, none, none, none, none, none, none, none, none, none, none, none, none, rfl, S1, fun h => absurd h (by decide)⟩ ?_ ?_⟩
      · rintro i σ G hi ⟨o2, o3, o4, o5, o6, o7, o8, o9, o11, o12, o13, o14, o15, o16, o17, o18, o10, rfl, S0, -⟩
        -- a problem
        refine ⟨fun σ G => ∃ o2 o4 o5 o6 o7 o8 o9 o10 o11 o12 o13 o14 o15 o16 o17 o18 : Option V, ∃ (M : Addr) (n : Int), σ = [some (.ref a), some (.ref p), o2, some (.ref M), o4, o5, o6, o7, o8, o9, o10, o11, o12, o13, o14, o15, o16, o17, o18] ∧ Src G p q ns ∧ ProbAt K CP (wos [p] G) M 1 [rowPr n] ∧ 0 ≤ n ∧ n < 9, ?_, ?_⟩
        · refine ⟨small_line (by show 1 ≤ 1000; decide), fun L1 hL1 => ⟨_, rfl, p, q, ns, 9, rfl, S0.put (S0.out hL1), by decide, by decide, fun n G1 n0 n9 S1 B1 => ⟨small_line (by show 3 ≤ 1000; decide), fun T hT => ⟨small_line (by show 1 ≤ 1000; decide), fun L hL => ?_⟩⟩⟩⟩
          refine fun x dx hx hdx nx => ?_
          have nL1 := out S0 hL1
          have e1 : G1 L1 = some (.lst [.int 1]) := by rw [B1 L1 (fun z => nL1 (by rw [z]; exact List.mem_singleton_self _))]; exact upd_same
          have mT := same_upd (o := .tup [.ref L1, .int n, .bl false]) hT
          have mL := same_upd (o := .lst [.ref T]) hL
          have m0 := st0_same (C := CP) hx hdx
          have dL : Dp K _ (.ref L) (.list [rowIn n]) := Dp.same m0 _ _ (.lst (SqL.of upd_same) (.cons (.tup (SqT.of (mL _ _ upd_same)) (.cons (.lst (SqL.of (mL _ _ (mT _ _ e1))) (.cons (.int 1) .nil)) (.cons (.int n) (.cons (.bl false) .nil)))) .nil))
          refine ⟨x, dx, 1, .ref L, .list [rowIn n], rfl, upd_same, by decide, by decide, dL, rfl, by show 1 ≤ 1000; decide, fun d hd => ?_, fun L' ys G2 hp2 hL' hLy hd2 e2 => ⟨rfl, ?_⟩⟩
          · rw [List.mem_singleton.mp hd]
            exact ⟨row_ok n, row_wide n0 n9⟩
          · obtain ⟨s1, s2⟩ := newP_of hx hdx hp2 hL' hLy hd2 e2
            have S2 := ((S1.on mT).on mL)
            exact ⟨_, _, _, _, _, _, _, _, _, _, _, _, _, _, _, _, x, n, rfl, S2.on s1, s2.at_ (fun b z => let ⟨ys, hy⟩ := S2.lsts b z; ⟨_, hy⟩) (S2.on s1).lsts rfl, n0, n9⟩
        clear S0
        rintro σ G ⟨o2, o4, o5, o6, o7, o8, o9, o10, o11, o12, o13, o14, o15, o16, o17, o18, M, n, rfl, S0, pM, n0, n9⟩
        -- a number
        refine ⟨fun σ G => ∃ o2 o5 o6 o7 o8 o9 o10 o11 o12 o13 o14 o15 o16 o17 o18 : Option V, ∃ (vn : V) (s : Int × Int), σ = [some (.ref a), some (.ref p), o2, some (.ref M), some vn, o5, o6, o7, o8, o9, o10, o11, o12, o13, o14, o15, o16, o17, o18] ∧ Src G p q ns ∧ ProbAt K CP (wos [p] G) M 1 [rowPr n] ∧ Dp K (wos [p] G) vn (ratT s) ∧ Wd s, ?_, ?_⟩
        · exact ⟨_, rfl, p, q, ns, rfl, S0, fun vn s G1 _ wd S1 e1 dn => ⟨_, _, _, _, _, _, _, _, _, _, _, _, _, _, _, vn, s, rfl, S1, pM.same e1, dn, wd⟩⟩
        clear S0 pM
        rintro σ G ⟨o2, o5, o6, o7, o8, o9, o10, o11, o12, o13, o14, o15, o16, o17, o18, vn, s, rfl, S0, pM, dn, wd⟩
        -- the inner list
        refine ⟨fun σ G => ∃ o2 o6 o7 o8 o9 o10 o11 o12 o13 o14 o15 o16 o17 o18 : Option V, ∃ I : Addr, σ = [some (.ref a), some (.ref p), o2, some (.ref M), some vn, some (.ref I), o6, o7, o8, o9, o10, o11, o12, o13, o14, o15, o16, o17, o18] ∧ Src G p q ns ∧ I ≠ p ∧ I ≠ q ∧ ProbAt K CP (wos [I, p] G) M 1 [rowPr n] ∧ Dp K (wos [I, p] G) vn (ratT s) ∧ G I = some (.lst [.int 1]), ?_, ?_⟩
        · refine ⟨small_line (by show 1 ≤ 1000; decide), fun I hI => ?_⟩
          have e1 : Same (wos [p] G) (wos [I, p] (upd G I (.lst [.int 1]))) := Exs.fresh (Exs.of (same_upd hI)) hI
          exact ⟨_, _, _, _, _, _, _, _, _, _, _, _, _, _, I, rfl, S0.put (S0.out hI), (S0.out hI).1, (S0.out hI).2, pM.same e1, Dp.same e1 _ _ dn, upd_same⟩
        clear S0 pM dn
        rintro σ G ⟨o2, o6, o7, o8, o9, o10, o11, o12, o13, o14, o15, o16, o17, o18, I, rfl, S0, nIp, nIq, pM, dn, hI⟩
        -- what is given
        refine ⟨fun σ G => ∃ o2 o7 o8 o9 o10 o11 o12 o13 o14 o15 o16 o17 o18 : Option V, ∃ (D : Addr) (xs : List V) (gs : List PyData), σ = [some (.ref a), some (.ref p), o2, some (.ref M), some vn, some (.ref I), some (.ref D), o7, o8, o9, o10, o11, o12, o13, o14, o15, o16, o17, o18] ∧ Src G p q ns ∧ D ≠ p ∧ D ≠ q ∧ D ≠ I ∧ ProbAt K CP (wos [D, I, p] G) M 1 [rowPr n] ∧ Dp K (wos [D, I, p] G) vn (ratT s) ∧ G I = some (.lst [.int 1]) ∧ G D = some (.lst (xs ++ [.ref I])) ∧ DpAll K (wos [D, I, p] G) xs gs ∧ gs.length ≤ 2 ∧ ∀ g ∈ gs, itD g, ?_, ?_⟩
        · refine ⟨_, rfl, p, q, ns, 3, rfl, S0, by decide, by decide, fun r G1 r0 r1 S1 B1 => ?_⟩
          have e1 := But.exs B1
          obtain ⟨m, rfl⟩ := Int.eq_ofNat_of_zero_le r0
          refine ⟨_, rfl, by omega, by omega, fun C hC => ?_⟩
          have nC := out S1 hC
          have oC := S1.out hC
          have nI : I ∉ [p] := fun z => nIp (List.mem_singleton.mp z)
          have hI1 : G1 I = some (.lst [.int 1]) := Exs.on e1 nI hI
          refine lc_range (lo := 0) (n := (m : Int).toNat) (fun i G' => ∃ (acc : List V) (gs : List PyData), G' C = some (.lst acc) ∧ acc.length = i ∧ gs.length = i ∧ DpAll K (wos [C, I, p] G') acc gs ∧ (∀ g ∈ gs, itD g) ∧ Src G' p q ns ∧ Exs [p] G1 G') ⟨[], [], upd_same, rfl, rfl, .nil, (fun _ h => by cases h), S1.put oC, Exs.of (same_upd hC)⟩ ?_ ?_
          · rintro i G2 hi ⟨acc, gs, hCa, la, lg, da, ok, S2, e2⟩
            refine ⟨rfl, _, rfl, small_line (by show 2 ≤ 1000; decide), fun T hT => ⟨small_line (by show 4 ≤ 1000; decide), fun L hL => ?_⟩⟩
            have mT := same_upd (o := .tup [.int 1, .int 2]) hT
            have mL := same_upd (o := .lst [.non, .int 3, .ref T, .str "a"]) hL
            have SL := (S2.on mT).on mL
            have nL : L ≠ p := ((S2.on mT).out hL).1
            have nT : T ≠ p := (S2.out hT).1
            refine ⟨p, q, ns, .ref L, rfl, SL, .inl ⟨L, _, rfl, fun H' b => .inl (SqL.of (by rw [b L nL]; exact upd_same)), by show 0 < 4; decide, by show 4 < 1000000; decide, fun j x G3 hx S3 B3 => ?_⟩⟩
            have e3 : Exs [p] G2 G3 := (Exs.of (mT.trans mL)).trans (But.exs B3)
            have hC3 : G3 C = some (.lst acc) := Exs.on e3 nC hCa
            have hI2 : G2 I = some (.lst [.int 1]) := Exs.on e2 nI hI1
            have tT : G3 T = some (.tup [.int 1, .int 2]) := by rw [B3 T nT]; exact mL _ _ upd_same
            have oT : T ∉ [C, I, p] := fun z => by
              simp only [List.mem_cons, List.not_mem_nil, or_false] at z
              rcases z with z | z | z
              · rw [z, hCa] at hT; cases hT
              · rw [z, hI2] at hT; cases hT
              · exact nT z
            obtain ⟨d, id, dd⟩ : ∃ d, itD d ∧ Dp K (wos [C, I, p] G3) x d := by
              rcases (show j = 0 ∨ j = 1 ∨ j = 2 ∨ j = 3 ∨ 4 ≤ j by omega) with rfl | rfl | rfl | rfl | h4
              · cases hx; exact ⟨_, .inl rfl, .non⟩
              · cases hx; exact ⟨_, .inr (.inl rfl), .int 3⟩
              · cases hx; exact ⟨_, .inr (.inr (.inl rfl)), .tup (SqT.of (by rw [wos_out oT]; exact tT)) (.cons (.int 1) (.cons (.int 2) .nil))⟩
              · cases hx; exact ⟨_, .inr (.inr (.inr rfl)), .str "a"⟩
              · rw [List.getElem?_eq_none (by show 4 ≤ j; exact h4)] at hx; cases hx
            have e3' : Exs [C, I, p] G2 G3 := Exs.mono (fun b hb => by rw [List.mem_singleton.mp hb]; exact List.mem_cons_of_mem _ (List.mem_cons_of_mem _ List.mem_cons_self)) e3
            refine ⟨acc, hC3, ?_, acc ++ [x], gs ++ [d], upd_same, by rw [List.length_append, la]; rfl, by rw [List.length_append, lg]; rfl, ?_, fun g hg => ?_, S3.put oC, exs_off hC oC.1 (e2.trans e3)⟩
            · rw [la]
              exact Nat.lt_of_lt_of_le (show i < 10 by omega) (by decide)
            · rw [wos_upd List.mem_cons_self]
              exact DpAll.snoc dd (DpAll.same e3' _ _ da)
            · rcases List.mem_append.mp hg with hg | hg
              · exact ok g hg
              · rw [List.mem_singleton.mp hg]; exact id
          · rintro G2 ⟨acc, gs, hCa, la, lg, da, ok, S2, e2⟩
            have hI2 : G2 I = some (.lst [.int 1]) := Exs.on e2 nI hI1
            refine ⟨_, rfl, small_line (by show 1 ≤ 1000; decide), fun L1 hL1 => ?_⟩
            have m1 := same_upd (o := .lst [.ref I]) hL1
            refine ⟨_, _, _, _, rfl, rfl, m1 _ _ hCa, upd_same, ?_, fun D hD => ?_⟩
            · rw [la]
              exact Nat.le_trans (Nat.add_le_add_right (show (m : Int).toNat ≤ 2 by omega) 1) (show 2 + 1 ≤ sizeLine by decide)
            · have m2 := same_upd (o := .lst (acc ++ [.ref I])) hD
              have S4 := S2.on m1
              have nDI : D ≠ I := fun z => by rw [z, m1 _ _ hI2] at hD; cases hD
              have c1 : Same (wos [I, p] G) (wos [I, p] G2) := Exs.mono (fun b hb => by rw [List.mem_singleton.mp hb]; exact List.mem_cons_of_mem _ List.mem_cons_self) (e1.trans e2)
              have c2 : Same (wos [I, p] G2) (wos [D, I, p] (upd (upd G2 L1 (.lst [.ref I])) D (.lst (acc ++ [.ref I])))) := (Exs.of m1).trans (Exs.fresh (Exs.of m2) hD)
              have c3 : Same (wos [C, I, p] G2) (wos [I, p] G2) := wos_less fun b hb => List.mem_cons_of_mem _ hb
              exact ⟨_, _, _, _, _, _, _, _, _, _, _, _, _, D, acc, gs, rfl, S4.on m2, (S4.out hD).1, (S4.out hD).2, nDI, pM.same (c1.trans c2), Dp.same (c1.trans c2) _ _ dn, m2 _ _ (m1 _ _ hI2), upd_same, DpAll.same (c3.trans c2) _ _ da, by omega, ok⟩
        clear S0 pM dn hI
        rintro σ G ⟨o2, o7, o8, o9, o10, o11, o12, o13, o14, o15, o16, o17, o18, D, xs, gs, rfl, S0, nDp, nDq, nDI, pM, dn, hI, hD, dg, lg, ig⟩
        -- what is kept, a value
        refine ⟨fun σ G => ∃ o2 o7 o10 o11 o12 o13 o14 o15 o16 o17 o18 : Option V, ∃ (L8 : Addr) (vv : V) (dv : PyData), σ = [some (.ref a), some (.ref p), o2, some (.ref M), some vn, some (.ref I), some (.ref D), o7, some (.ref L8), some vv, o10, o11, o12, o13, o14, o15, o16, o17, o18] ∧ Src G p q ns ∧ ProbAt K CP (wos [D, I, p] G) M 1 [rowPr n] ∧ Dp K (wos [D, I, p] G) vn (ratT s) ∧ G I = some (.lst [.int 1]) ∧ G D = some (.lst (xs ++ [.ref I])) ∧ DpAll K (wos [D, I, p] G) xs gs ∧ Dp K (wos [D, I, p] G) (.ref L8) (.list (gs ++ [.list [.int 1]])) ∧ Dp K (wos [D, I, p] G) vv dv ∧ vaD dv, ?_, ?_⟩
        · refine ⟨_, rfl, 1, rfl, -1, rfl, D, _, rfl, SqL.of hD, fun L1 hL1 => ?_⟩
          rw [cut1n, List.dropLast_concat]
          have m1 := same_upd (o := .lst xs) hL1
          refine ⟨small_line (by show 1 ≤ 1000; decide), fun A1 hA1 => ⟨small_line (by show 1 ≤ 1000; decide), fun A2 hA2 => ?_⟩⟩
          have mA1 := same_upd (o := .lst [.int 1]) hA1
          have mA2 := same_upd (o := .lst [.ref A1]) hA2
          refine ⟨_, _, _, _, rfl, rfl, mA2 _ _ (mA1 _ _ upd_same), upd_same, ?_, fun L8 h8 => ?_⟩
          · rw [DpAll.len dg]
            exact Nat.le_trans (Nat.add_le_add_right lg 1) (show 2 + 1 ≤ sizeLine by decide)
          have m8 := same_upd (o := .lst (xs ++ [.ref A1])) h8
          have MM := ((m1.trans mA1).trans mA2).trans m8
          have S8 := S0.on MM
          refine ⟨_, rfl, small_line (by show 4 ≤ 1000; decide), fun L hL => ?_⟩
          have mL := same_upd (o := .lst [.non, .int 3, .str "ab", .bl true]) hL
          have nL : L ≠ p := (S8.out hL).1
          refine ⟨p, q, ns, .ref L, rfl, S8.on mL, .inl ⟨L, _, rfl, fun H' b => .inl (SqL.of (by rw [b L nL]; exact upd_same)), by show 0 < 4; decide, by show 4 < 1000000; decide, fun j x G3 hx S3 B3 => ?_⟩⟩
          obtain ⟨dv, iv, dd⟩ : ∃ d, vaD d ∧ Dp K (wos [D, I, p] G3) x d := by
            rcases (show j = 0 ∨ j = 1 ∨ j = 2 ∨ j = 3 ∨ 4 ≤ j by omega) with rfl | rfl | rfl | rfl | h4
            · cases hx; exact ⟨_, .inl rfl, .non⟩
            · cases hx; exact ⟨_, .inr (.inl rfl), .int 3⟩
            · cases hx; exact ⟨_, .inr (.inr (.inl rfl)), .str "ab"⟩
            · cases hx; exact ⟨_, .inr (.inr (.inr rfl)), .bl true⟩
            · rw [List.getElem?_eq_none (by show 4 ≤ j; exact h4)] at hx; cases hx
          have e3 : Exs [D, I, p] G G3 := (Exs.of (MM.trans mL)).trans (Exs.but (List.mem_cons_of_mem _ (List.mem_cons_of_mem _ List.mem_cons_self)) B3)
          have n8 : L8 ≠ p := ((S0.on ((m1.trans mA1).trans mA2)).out h8).1
          have nA : A1 ≠ p := ((S0.on m1).out hA1).1
          have o8 : L8 ∉ [D, I, p] := fun z => by
            simp only [List.mem_cons, List.not_mem_nil, or_false] at z
            rcases z with z | z | z
            · rw [z, (mA2 _ _ (mA1 _ _ (m1 _ _ hD)))] at h8; cases h8
            · rw [z, (mA2 _ _ (mA1 _ _ (m1 _ _ hI)))] at h8; cases h8
            · exact n8 z
          have oA : A1 ∉ [D, I, p] := fun z => by
            simp only [List.mem_cons, List.not_mem_nil, or_false] at z
            rcases z with z | z | z
            · rw [z, m1 _ _ hD] at hA1; cases hA1
            · rw [z, m1 _ _ hI] at hA1; cases hA1
            · exact nA z
          have d8 : Dp K (wos [D, I, p] G3) (.ref L8) (.list (gs ++ [.list [.int 1]])) := .lst (SqL.of (by rw [wos_out o8, B3 _ n8]; exact mL _ _ upd_same)) (DpAll.snoc (.lst (SqL.of (by rw [wos_out oA, B3 _ nA]; exact mL _ _ (m8 _ _ (mA2 _ _ upd_same)))) (.cons (.int 1) .nil)) (DpAll.same e3 _ _ dg))
          exact ⟨_, _, rfl, _, _, _, _, _, _, _, _, _, _, _, L8, x, dv, rfl, S3, pM.same e3, Dp.same e3 _ _ dn, (B3 I nIp).trans (mL _ _ (MM _ _ hI)), (B3 D nDp).trans (mL _ _ (MM _ _ hD)), DpAll.same e3 _ _ dg, d8, dd, iv⟩
        clear S0 pM dn hI hD dg
        rintro σ G ⟨o2, o7, o10, o11, o12, o13, o14, o15, o16, o17, o18, L8, vv, dv, rfl, S0, pM, dn, hI, hD, dg, d8, dd, iv⟩
        have lx := DpAll.len dg
        have gok : GsOk (gs ++ [.list [.int 1]]) := ⟨gs, rfl, lg, ig⟩
        -- the answers
        refine ⟨fun σ G => ∃ o2 o7 o11 o12 o13 o14 o15 o16 o17 o18 : Option V, ∃ L10 a0 a1 a2 a3 a4 : Addr, σ = [some (.ref a), some (.ref p), o2, some (.ref M), some vn, some (.ref I), some (.ref D), o7, some (.ref L8), some vv, some (.ref L10), o11, o12, o13, o14, o15, o16, o17, o18] ∧ Bk P w K mg base CP p q ns D I k0 k1 k2 k3 k4 M n vn s L8 (gs ++ [.list [.int 1]]) vv dv L10 a0 a1 a2 a3 a4 G ∧ G I = some (.lst [.int 1]) ∧ G D = some (.lst (xs ++ [.ref I])), ?_, ?_⟩
        · have st : ∀ b ∈ [D, I, p], ∃ o, G b = some o := fun b hb => by
            simp only [List.mem_cons, List.not_mem_nil, or_false] at hb
            rcases hb with rfl | rfl | rfl
            · exact ⟨_, hD⟩
            · exact ⟨_, hI⟩
            · obtain ⟨ys, h⟩ := S0.lst
              exact ⟨_, h⟩
          have dD : Dp K G (.ref D) (.list (gs ++ [.list [.int 1]])) := .lst (SqL.of hD) (DpAll.snoc (.lst (SqL.of hI) (.cons (.int 1) .nil)) (DpAll.same wos_sub _ _ dg))
          have dn0 : Dp K G vn (ratT s) := Dp.same wos_sub _ _ dn
          have dv0 : Dp K G vv dv := Dp.same wos_sub _ _ dd
          have f2 := gok.fit 0
          have up : ∀ {H' : Hp}, Same G H' → ∀ b ∈ [D, I, p], ∃ o, H' b = some o := fun s b hb => let ⟨o, ho⟩ := st b hb; ⟨o, s _ _ ho⟩
          refine ⟨_, rfl, fun x0 y0 hx0 hy0 ne0 => madeA hx0 hy0 k0.c fun H0 s0 i0 => ?_⟩
          refine ⟨_, rfl, _, rfl, fun x1 y1 hx1 hy1 ne1 => madeS hx1 hy1 k1.c T.s1 (Dp.same s0 _ _ dD) f2 fun H1 s1 i1 => ?_⟩
          have t1 := s0.trans s1
          refine ⟨_, rfl, _, rfl, fun x2 y2 hx2 hy2 ne2 => madeB hx2 hy2 k2.c T.s2 (Dp.same t1 _ _ dD) f2 fun H2 s2 i2 => ?_⟩
          have t2 := t1.trans s2
          refine ⟨_, rfl, _, rfl, _, rfl, _, rfl, _, rfl, fun x3 y3 hx3 hy3 ne3 => madeT hx3 hy3 k3.c T.s3 T.s3' (Dp.same t2 _ _ dD) f2 (Dp.same t2 _ _ dD) f2 (Dp.same t2 _ _ dv0) (vaD_fit iv 2) (Dp.same t2 _ _ dn0) rfl fun H3 s3 i3 => ?_⟩
          have t3 := t2.trans s3
          refine ⟨_, rfl, _, rfl, _, rfl, _, rfl, rfl, rfl, fun x4 y4 hx4 hy4 ne4 => madeE hx4 hy4 k4.c T.s4 T.s4' (Dp.same t3 _ _ dv0) (vaD_fit iv 2) (Dp.same t3 _ _ dD) f2 (Dp.same t3 _ _ dD) f2 fun H4 s4 i4 => ?_⟩
          have t4 := t3.trans s4
          refine ⟨small_line (by show 5 ≤ 1000; decide), fun L10 h10 => ?_⟩
          have s5 := same_upd (o := .lst [.ref x0, .ref x1, .ref x2, .ref x3, .ref x4]) h10
          have t5 := t4.trans s5
          have o10 : L10 ∉ [D, I, p] := fun z => by
            obtain ⟨o, ho⟩ := up t4 _ z
            rw [ho] at h10
            cases h10
          have e5 : Exs [D, I, p] G _ := Exs.of t5
          exact ⟨_, _, _, _, _, _, _, _, _, _, L10, x0, x1, x2, x3, x4, rfl,
            ⟨S0.on t5, pM.same e5, Dp.same e5 _ _ dn, wd, Dp.same e5 _ _ d8, gok, Dp.same e5 _ _ dd, iv, by rw [wos_out o10]; exact upd_same,
              i0.same ((newer_wos st).trans (Exs.of (s1.trans (s2.trans (s3.trans (s4.trans s5)))))), i1.same ((newer_wos (up s0)).trans (Exs.of (s2.trans (s3.trans (s4.trans s5))))), i2.same ((newer_wos (up t1)).trans (Exs.of (s3.trans (s4.trans s5)))), i3.same ((newer_wos (up t2)).trans (Exs.of (s4.trans s5))), i4.same ((newer_wos (up t3)).trans (Exs.of s5))⟩, t5 _ _ hI, t5 _ _ hD⟩
        clear S0 pM dn hI hD dg d8 dd
        rintro σ G ⟨o2, o7, o11, o12, o13, o14, o15, o16, o17, o18, L10, a0, a1, a2, a3, a4, rfl, bk, hI, hD⟩
        -- the lists that were handed in grow
        refine ⟨fun σ G => ∃ o2 o7 o11 o12 o13 o14 o15 o16 o17 o18 : Option V, σ = [some (.ref a), some (.ref p), o2, some (.ref M), some vn, some (.ref I), some (.ref D), o7, some (.ref L8), some vv, some (.ref L10), o11, o12, o13, o14, o15, o16, o17, o18] ∧ Bk P w K mg base CP p q ns D I k0 k1 k2 k3 k4 M n vn s L8 (gs ++ [.list [.int 1]]) vv dv L10 a0 a1 a2 a3 a4 G ∧ G I = some (.lst [.int 1]), ?_, ?_⟩
        · refine ⟨_, rfl, .inl ⟨rfl, _, SqL.of hD⟩, D, xs ++ [.ref I], _, rfl, rfl, hD, ?_, _, _, _, _, _, _, _, _, _, _, rfl, bk.on (Exs.upd List.mem_cons_self) (bk.src.put ⟨nDp, nDq⟩), by rw [upd_ne nDI.symm]; exact hI⟩
          rw [List.length_append, lx]
          exact Nat.lt_of_le_of_lt (Nat.add_le_add_right lg 1) (show 2 + 1 < sizeLine by decide)
        clear bk hI hD
        rintro σ G ⟨o2, o7, o11, o12, o13, o14, o15, o16, o17, o18, rfl, bk, hI⟩
        -- the inner one too
        refine ⟨fun σ G => ∃ o2 o5 o6 o7 o11 o12 o13 o14 o15 o16 o17 o18 : Option V, σ = [some (.ref a), some (.ref p), o2, some (.ref M), some vn, o5, o6, o7, some (.ref L8), some vv, some (.ref L10), o11, o12, o13, o14, o15, o16, o17, o18] ∧ Bk P w K mg base CP p q ns D I k0 k1 k2 k3 k4 M n vn s L8 (gs ++ [.list [.int 1]]) vv dv L10 a0 a1 a2 a3 a4 G, ?_, ?_⟩
        · exact ⟨_, rfl, .inl ⟨rfl, _, SqL.of hI⟩, I, [.int 1], _, rfl, rfl, hI, by decide, _, _, _, _, _, _, _, _, _, _, _, _, rfl, bk.on (Exs.upd (List.mem_cons_of_mem _ List.mem_cons_self)) (bk.src.put ⟨nIp, nIq⟩)⟩
        clear bk hI
        rintro σ G ⟨o2, o5, o6, o7, o11, o12, o13, o14, o15, o16, o17, o18, rfl, bk⟩
        -- words
        refine ⟨fun σ G => ∃ o2 o5 o6 o7 o12 o13 o14 o15 o16 o17 o18 : Option V, ∃ W : Addr, σ = [some (.ref a), some (.ref p), o2, some (.ref M), some vn, o5, o6, o7, some (.ref L8), some vv, some (.ref L10), some (.ref W), o12, o13, o14, o15, o16, o17, o18] ∧ Bk P w K mg base CP p q ns D I k0 k1 k2 k3 k4 M n vn s L8 (gs ++ [.list [.int 1]]) vv dv L10 a0 a1 a2 a3 a4 G ∧ G W = some (.lst [.str "open", .str "solved", .str "barred", .str ("top " ++ rT s), .str "endless"]), ?_, ?_⟩
        · refine ⟨_, rfl, vn, s, rfl, Dp.same wos_sub _ _ bk.num, bk.wd, _, _, rfl, rfl, ?_, small_line (by show 5 ≤ 1000; decide), fun W hW => ⟨_, _, _, _, _, _, _, _, _, _, _, W, rfl, bk.same (same_upd hW), upd_same⟩⟩
          have e1 : (rT s).length ≤ 122 := by
            unfold rT
            rw [tx_len]
            exact text_len (wd_60 bk.wd).1 (wd_60 bk.wd).2
          have e2 : ("top " : Str).length = 4 := by decide +kernel
          exact fits_line (by rw [e2]; omega)
        clear bk
        rintro σ G ⟨o2, o5, o6, o7, o12, o13, o14, o15, o16, o17, o18, W, rfl, bk, hW⟩
        -- asked twice
        refine ⟨fun σ G => ∃ o2 o5 o6 o7 o12 o13 o14 o15 o16 o17 o18 : Option V, σ = [some (.ref a), some (.ref p), o2, some (.ref M), some vn, o5, o6, o7, some (.ref L8), some vv, some (.ref L10), some (.ref W), o12, o13, o14, o15, o16, o17, o18] ∧ Bk P w K mg base CP p q ns D I k0 k1 k2 k3 k4 M n vn s L8 (gs ++ [.list [.int 1]]) vv dv L10 a0 a1 a2 a3 a4 G, ?_, ?_⟩
        · refine ⟨2, rfl, by decide, by decide, for_range (lo := 0) (n := 2) (fun i2 σ G => ∃ o2 o5 o6 o7 o12 o13 o14 o15 o16 o17 o18 : Option V, σ = [some (.ref a), some (.ref p), o2, some (.ref M), some vn, o5, o6, o7, some (.ref L8), some vv, some (.ref L10), some (.ref W), o12, o13, o14, o15, o16, o17, o18] ∧ Bk P w K mg base CP p q ns D I k0 k1 k2 k3 k4 M n vn s L8 (gs ++ [.list [.int 1]]) vv dv L10 a0 a1 a2 a3 a4 G ∧ G W = some (.lst [.str "open", .str "solved", .str "barred", .str ("top " ++ rT s), .str "endless"])) ⟨_, _, _, _, _, _, _, _, _, _, _, rfl, bk, hW⟩ ?_ ?_⟩
          · clear bk hW
            rintro i2 σ G hi2 ⟨o2, o5, o6, o7, o12, o13, o14, o15, o16, o17, o18, rfl, bk, hW⟩
            -- what they say
            refine ⟨fun σ G => ∃ o2 o5 o6 o7 o12 o14 o15 o16 o17 o18 : Option V, ∃ L13 : Addr, σ = [some (.ref a), some (.ref p), o2, some (.ref M), some vn, o5, o6, o7, some (.ref L8), some vv, some (.ref L10), some (.ref W), o12, some (.ref L13), o14, o15, o16, o17, o18] ∧ (Bk P w K mg base CP p q ns D I k0 k1 k2 k3 k4 M n vn s L8 (gs ++ [.list [.int 1]]) vv dv L10 a0 a1 a2 a3 a4 G ∧ G W = some (.lst [.str "open", .str "solved", .str "barred", .str ("top " ++ rT s), .str "endless"])) ∧ Dp K G (.ref L13) (.list (saidL s)), ?_, ?_⟩
            · refine ⟨_, rfl, L10, rfl, ⟨_, SqL.of (wos_sub _ _ bk.some_)⟩, fun C hC => ?_⟩
              refine lc_list (K := K) (a := L10) (xs := [.ref a0, .ref a1, .ref a2, .ref a3, .ref a4]) (fun i G2 => Same G G2 ∧ Acc K [] C G2 ((saidL s).take i)) ⟨same_upd hC, Acc.start⟩ (fun i G2 _ c => SqL.of (c.1 _ _ (wos_sub _ _ bk.some_))) (fun i v G2 hv c => ?_) (fun G2 c => ?_)
              · obtain ⟨sm, c⟩ := c
                have b2 := bk.same sm
                have tA : ∀ {k : Kls P w K mg base} {x : Addr} {l : List (Str × PyData)}, InsL k.C x (wos [D, I, p] G2) (.ref M) l → k.spT = spToldA K → ∀ {H : Hp} {Q : VK}, Same G2 H → (∀ H', Same H H' → Q (.str k.kd) H') → k.spT [.ref x] H Q E0 := fun {k x l} h e {H Q} s q => by
                  obtain ⟨dx, fs, hx, ia, lp, nf, -⟩ := (h.same (Exs.of s)).ins
                  rw [e]
                  exact ⟨x, k.C, fs, k.kd, k.u, rfl, ia, k.kind, nf _ (by decide +kernel) (by decide +kernel) (by decide +kernel) (by decide +kernel) (by decide +kernel) (by decide +kernel), q _ (Same.refl _)⟩
                obtain ⟨k, x, l, tx, b, rfl, h, hA, hS, hb, hi, hl, told⟩ : ∃ (k : Kls P w K mg base) (x : Addr) (l : List (Str × PyData)) (tx : Str) (b : Bool), v = .ref x ∧ InsL k.C x (wos [D, I, p] G2) (.ref M) l ∧ PySem.W.kitOne K (.ref k.C) (.ref k0.C) = some true ∧ PySem.W.kitOne K (.ref k.C) (.ref k1.C) = some b ∧ k.bv = b ∧ (saidL s)[i]? = some (said k.kd tx b) ∧ tx.length ≤ 150 ∧
                    (∀ {H : Hp} {Q : VK}, Same G2 H → (∀ H', Same H H' → Q (.str tx) H') → k.spT [.ref x] H Q E0) := by
                  rcases (show i = 0 ∨ i = 1 ∨ i = 2 ∨ i = 3 ∨ i = 4 ∨ 5 ≤ i by omega) with rfl | rfl | rfl | rfl | rfl | h5
                  · cases hv; exact ⟨k0, a0, _, k0.kd, false, rfl, b2.i0, T.aA _ (by simp), T.aS.1, T.t0.2.2, by rw [T.t0.2.1]; rfl, by rw [T.t0.2.1]; decide +kernel, tA b2.i0 T.t0.1⟩
                  · cases hv; exact ⟨k1, a1, _, k1.kd, true, rfl, b2.i1, T.aA _ (by simp), T.aS.2.1, T.t1.2.2, by rw [T.t1.2.1]; rfl, by rw [T.t1.2.1]; decide +kernel, tA b2.i1 T.t1.1⟩
                  · cases hv; exact ⟨k2, a2, _, k2.kd, false, rfl, b2.i2, T.aA _ (by simp), T.aS.2.2.1, T.t2.2.2, by rw [T.t2.2.1]; rfl, by rw [T.t2.2.1]; decide +kernel, tA b2.i2 T.t2.1⟩
                  · cases hv
                    have l3 : (rT s).length ≤ 122 := by
                      unfold rT
                      rw [tx_len]
                      exact text_len (wd_60 bk.wd).1 (wd_60 bk.wd).2
                    refine ⟨k3, a3, _, ("top" ++ " ") ++ rT s, true, rfl, b2.i3, T.aA _ (by simp), T.aS.2.2.2.1, T.t3.2.2, by rw [T.t3.2.1]; rfl, ?_, fun {H Q} s' q => ?_⟩
                    · have l4 : (("top" : Str) ++ " ").length = 4 := by decide +kernel
                      rw [len_app, l4]
                      omega
                    · obtain ⟨dx, fs, hx, ia, lp, nf, fld⟩ := (b2.i3.same (Exs.of s')).ins
                      obtain ⟨nv, ln, dn'⟩ := fld ("number", ratT s) (by simp)
                      rw [T.t3.1]
                      refine ⟨a3, k3.C, fs, k3.kd, k3.u, nv, ratT s, rfl, ia, k3.kind, nf _ (by decide +kernel) (by decide +kernel) (by decide +kernel) (by decide +kernel) (by decide +kernel) (by decide +kernel), by rw [T.t3.2.1]; decide +kernel, ln, dn', .inr ⟨s, rfl, bk.wd, fun H' s2 => ?_⟩⟩
                      rw [T.t3.2.1]
                      exact q _ s2
                  · cases hv; exact ⟨k4, a4, _, k4.kd, true, rfl, b2.i4, T.aA _ (by simp), T.aS.2.2.2.2, T.t4.2.2, by rw [T.t4.2.1]; rfl, by rw [T.t4.2.1]; decide +kernel, tA b2.i4 T.t4.1⟩
                  · rw [List.getElem?_eq_none (by show 5 ≤ i; exact h5)] at hv; cases hv
                obtain ⟨dx, fs, hx, ia, lp, nf, -⟩ := h.ins
                have nT : fs.lookup ("told" : Str) = none := nf _ (by decide +kernel) (by decide +kernel) (by decide +kernel) (by decide +kernel) (by decide +kernel) (by decide +kernel)
                have nK : fs.lookup ("KIND" : Str) = none := nf _ (by decide +kernel) (by decide +kernel) (by decide +kernel) (by decide +kernel) (by decide +kernel) (by decide +kernel)
                refine ⟨rfl, k, _, rfl, x, k.C, dx, fs, _, k.u, rfl, hx, k.c.cl, k.kind, nK, _, rfl, x, dx, fs, rfl, hx, nT, told (Same.refl _) fun H1 s1 => ?_⟩
                have hx1 := s1 _ _ hx
                refine ⟨_, rfl, x, dx, fs, rfl, hx1, x, rfl, ⟨_, rfl⟩, _, rfl, x, dx, fs, rfl, hx1, x, k.C, _, fs, _, _, rfl, ⟨⟨dx, hx1⟩, k.c⟩, nT, k.told.ok, k.told.at_, k.told.bd, fun R hR => told s1 fun H2 s2 => hR tx H2 hl ⟨⟨_, rfl⟩, ?_⟩⟩
                have s12 := s1.trans s2
                have hx2 := s12 _ _ hx
                have pb := b2.prob.same (wos_sub.trans s12)
                obtain ⟨dm, Lm, hM, hLm⟩ := id pb
                have sh : SeqAt.shaped (.list [rowPr n]) = true := rfl
                have E1 : (decide ((1 : Int) = 1) && PyData.eqv (.list [rowPr n]) (.list [rowPr n])) = true := by
                  rw [eqv_refl _ rfl]
                  rfl
                refine ⟨_, rfl, x, dx, fs, rfl, hx2, x, k.C, fs, .ref M, rfl, ⟨⟨dx, hx2⟩, k.c⟩, lp, _, rfl, M, dm, _, .ref CP, rfl, hM, T.insP.ty T.clsP.cl hM, T.nfP, M, .ref M, 1, _, rfl, pb, sh, .inl ⟨M, 1, _, rfl, pb, sh, ?_⟩⟩
                rw [E1]
                refine ⟨_, rfl, _, _, _, _, true, rfl, .own _, k.ty hx2, hA, _, rfl, _, _, _, _, b, rfl, .own _, k.ty hx2, hS, small_line (by show 7 ≤ 1000; decide), fun A hA2 => ?_⟩
                have mA := same_upd (o := .lst [.str k.kd, .str tx, .bl k.bv, .str (("Answer(" ++ tx) ++ ")"), .bl true, .bl true, .bl b]) hA2
                have mm := s12.trans mA
                have c2 := c.on (Exs.of mm) (fun o h => mm _ _ h)
                have nA : A ∉ [C] := fun z => by
                  obtain ⟨acc, h1, -⟩ := c.ex
                  rw [List.mem_singleton.mp z, s12 _ _ h1] at hA2
                  cases hA2
                obtain ⟨acc, h1, h2, h3⟩ := c2.more (d := said k.kd tx b) (y := .ref A) (.lst (SqL.of (by rw [wos_out nA]; exact upd_same)) (.cons (.str _) (.cons (.str _) (.cons (by rw [hb]; exact .bl b) (.cons (.str _) (.cons (.bl true) (.cons (.bl true) (.cons (.bl b) .nil))))))))
                exact ⟨acc, h1, by rw [h2, List.length_take]; exact Nat.lt_of_le_of_lt (Nat.min_le_right _ _) (show 5 < sizeLine by decide), fun b o z => by rw [upd_ne (ne_of_none z hC)]; exact mm _ _ (sm _ _ z), by rw [List.take_add_one, hi]; exact h3⟩
              · obtain ⟨sm, c⟩ := c
                exact ⟨_, _, _, _, _, _, _, _, _, _, C, rfl, ⟨bk.same sm, sm _ _ hW⟩, Dp.same wos_sub _ _ (c.done (fun z => by cases z))⟩
            clear bk hW
            rintro σ G ⟨o2, o5, o6, o7, o12, o14, o15, o16, o17, o18, L13, rfl, ⟨bk, hW⟩, dg⟩
            -- what is due
            refine ⟨fun σ G => ∃ o2 o5 o6 o7 o12 o14 o16 o17 o18 : Option V, ∃ L15 : Addr, σ = [some (.ref a), some (.ref p), o2, some (.ref M), some vn, o5, o6, o7, some (.ref L8), some vv, some (.ref L10), some (.ref W), o12, some (.ref L13), o14, some (.ref L15), o16, o17, o18] ∧ (Bk P w K mg base CP p q ns D I k0 k1 k2 k3 k4 M n vn s L8 (gs ++ [.list [.int 1]]) vv dv L10 a0 a1 a2 a3 a4 G ∧ G W = some (.lst [.str "open", .str "solved", .str "barred", .str ("top " ++ rT s), .str "endless"])) ∧ Dp K G (.ref L13) (.list (saidL s)) ∧ Dp K G (.ref L15) (.list (saidL s)), ?_, ?_⟩
            · refine ⟨5, rfl, by decide, by decide, fun C hC => ?_⟩
              refine lc_range (lo := 0) (n := 5) (fun i G2 => Same G G2 ∧ Acc K [] C G2 ((saidL s).take i)) ⟨same_upd hC, Acc.start⟩ ?_ ?_
              · rintro i G2 hi ⟨sm, c⟩
                obtain ⟨y, z, r, b, hz, lz, hsp, hb, hs⟩ := word_at bk.wd i hi
                have aI : ∀ {H : Hp}, Same G2 H → SqL K H W [.str "open", .str "solved", .str "barred", .str ("top " ++ rT s), .str "endless"] := fun {H} e => SqL.of (e _ _ (sm _ _ hW))
                have aZ : atI ([.str "open", .str "solved", .str "barred", .str ("top " ++ rT s), .str "endless"] : List V) (0 + (i : Int)) = some (.str z) := by
                  rw [Int.zero_add]
                  refine atI_nat ?_
                  have e : ((wdL s).map V.str)[i]? = some (.str z) := by rw [List.getElem?_map, hz]; rfl
                  exact e
                refine ⟨rfl, _, rfl, _, rfl, W, _, _, _, rfl, rfl, aI (Same.refl _), aZ, ⟨_, rfl⟩, _, _, rfl, rfl, by decide +kernel, Nat.le_trans (Nat.add_le_add_right lz 2) (by decide), fun p1 hp1 => ?_⟩
                have m1 := same_upd (o := .lst ((Txt.split z " ").map V.str)) hp1
                refine ⟨p1, _, _, _, rfl, rfl, SqL.of upd_same, by rw [hsp]; exact atI_nat (j := 0) rfl, ?_⟩
                refine ⟨_, rfl, _, rfl, W, _, _, _, rfl, rfl, aI m1, aZ, _, rfl, small_line (by show 3 ≤ 1000; decide), fun T1 hT1 => ?_⟩
                have n1 := same_upd (o := .tup [.int 1, .int 3, .int 4]) hT1
                have dt : ∀ {H : Hp} {T : Addr}, H T = some (.tup [.int 1, .int 3, .int 4]) → Dp K H (.ref T) (.tuple [.int 1, .int 3, .int 4]) := fun h => .tup (SqT.of h) (.cons (.int 1) (.cons (.int 3) (.cons (.int 4) .nil)))
                refine ⟨.int (0 + (i : Int)), _, .int _, dt upd_same, rfl, rfl, ?_⟩
                have e12 := m1.trans n1
                have eA : ("Answer(" : Str).length = 7 := by decide +kernel
                have eB : (")" : Str).length = 1 := by decide +kernel
                refine ⟨_, rfl, _, rfl, W, _, _, _, rfl, rfl, aI e12, aZ, _, _, rfl, rfl, by rw [eA]; exact Nat.le_trans (Nat.add_le_add_left lz 7) (by decide), _, _, rfl, rfl, by rw [len_app, eA, eB]; exact Nat.le_trans (Nat.add_le_add_right (Nat.add_le_add_left lz 7) 1) (by decide), ?_⟩
                refine ⟨_, rfl, small_line (by show 3 ≤ 1000; decide), fun T2 hT2 => ?_⟩
                have n2 := same_upd (o := .tup [.int 1, .int 3, .int 4]) hT2
                refine ⟨.int (0 + (i : Int)), _, .int _, dt upd_same, rfl, rfl, ?_⟩
                have eb : (if false = true then ![PyData.int 1, .int 3, .int 4].any fun z => PyData.eqv z (.int (0 + (i : Int))) else [PyData.int 1, .int 3, .int 4].any fun z => PyData.eqv z (.int (0 + (i : Int)))) = b := by
                  rw [if_neg (by decide), Int.zero_add]
                  exact hb
                rw [eb]
                refine ⟨small_line (by show 7 ≤ 1000; decide), fun A hA2 => ?_⟩
                have mA := same_upd (o := .lst [.str y, .str z, .bl b, .str (("Answer(" ++ z) ++ ")"), .bl true, .bl true, .bl b]) hA2
                have mm := (e12.trans n2).trans mA
                have c2 := c.on (Exs.of mm) (fun o h => mm _ _ h)
                have nA : A ∉ [C] := fun zz => by
                  obtain ⟨acc, h1, -⟩ := c.ex
                  rw [List.mem_singleton.mp zz, (e12.trans n2) _ _ h1] at hA2
                  cases hA2
                obtain ⟨acc, h1, h2, h3⟩ := c2.more (d := dueD y z b) (y := .ref A) (.lst (SqL.of (by rw [wos_out nA]; exact upd_same)) (.cons (.str _) (.cons (.str _) (.cons (.bl b) (.cons (.str _) (.cons (.bl true) (.cons (.bl true) (.cons (.bl b) .nil))))))))
                exact ⟨acc, h1, by rw [h2, List.length_take]; exact Nat.lt_of_le_of_lt (Nat.min_le_right _ _) (show 5 < sizeLine by decide), fun b' o zz => by rw [upd_ne (ne_of_none zz hC)]; exact mm _ _ (sm _ _ zz), by rw [List.take_add_one, hs]; exact h3⟩
              · rintro G2 ⟨sm, c⟩
                exact ⟨_, _, _, _, _, _, _, _, _, C, rfl, ⟨bk.same sm, sm _ _ hW⟩, Dp.same sm _ _ dg, Dp.same wos_sub _ _ (c.done (fun z => by cases z))⟩
            clear bk hW dg
            rintro σ G ⟨o2, o5, o6, o7, o12, o14, o16, o17, o18, L15, rfl, ⟨bk, hW⟩, dg, dd⟩
            -- the first test
            refine ⟨fun σ G => ∃ o2 o5 o6 o7 o12 o13 o14 o15 o16 o17 o18 : Option V, σ = [some (.ref a), some (.ref p), o2, some (.ref M), some vn, o5, o6, o7, some (.ref L8), some vv, some (.ref L10), some (.ref W), o12, o13, o14, o15, o16, o17, o18] ∧ (Bk P w K mg base CP p q ns D I k0 k1 k2 k3 k4 M n vn s L8 (gs ++ [.list [.int 1]]) vv dv L10 a0 a1 a2 a3 a4 G ∧ G W = some (.lst [.str "open", .str "solved", .str "barred", .str ("top " ++ rT s), .str "endless"])), ?_, ?_⟩
            · refine ⟨_, rfl, _, rfl, .ref L13, .ref L15, _, _, rfl, dg, dd, saidL_sm bk.wd, saidL_sm bk.wd, _, rfl, ?_⟩
              rw [decide_eq_true rfl]
              obtain ⟨dx, fs, hx, -, -, nf, -⟩ := bk.i0.ins
              exact iteF ⟨_, rfl, L10, _, _, _, rfl, rfl, SqL.of (wos_sub _ _ bk.some_), atI_nat (j := 0) rfl, a0, dx, fs, rfl, hx, nf.get (by decide +kernel), a0, rfl, _, _, rfl, rfl, _, rfl, iteF ⟨_, _, _, _, _, _, _, _, _, _, _, rfl, bk, hW⟩⟩
            clear bk hW dg dd
            rintro σ G ⟨o2, o5, o6, o7, o12, o13, o14, o15, o16, o17, o18, rfl, bk, hW⟩
            -- six lists, each new
            refine ⟨fun σ G => ∃ o2 o5 o6 o7 o12 o13 o14 o15 o17 o18 : Option V, ∃ (L16 : Addr) (G0 : Hp) (fp : List Row3), σ = [some (.ref a), some (.ref p), o2, some (.ref M), some vn, o5, o6, o7, some (.ref L8), some vv, some (.ref L10), some (.ref W), o12, o13, o14, o15, some (.ref L16), o17, o18] ∧ (Bk P w K mg base CP p q ns D I k0 k1 k2 k3 k4 M n vn s L8 (gs ++ [.list [.int 1]]) vv dv L10 a0 a1 a2 a3 a4 G0 ∧ G0 W = some (.lst [.str "open", .str "solved", .str "barred", .str ("top " ++ rT s), .str "endless"])) ∧ Chg G0 G L16 (fp.map fun r => V.ref r.1) fp ∧ fp.length = 6 ∧ ∀ r ∈ fp, Dq G (.ref r.1) (.list (gs ++ [.list [.int 1]])), ?_, ?_⟩
            · refine ⟨_, rfl, L10, _, _, _, rfl, rfl, SqL.of (wos_sub _ _ bk.some_), atI_nat (j := 1) rfl, ?_⟩
              obtain ⟨dx1, fs1, hx1, -, -, nf1, -⟩ := bk.i1.ins
              refine ⟨a1, dx1, fs1, rfl, hx1, nf1.get (by decide +kernel), bk.i1.ask (E := E0) (e := ("_values", .list (gs ++ [.list [.int 1]]))) (by simp) (gok.fit 1) fun z1 H1 s1 q1 => ?_⟩
              obtain ⟨r1, rfl, w1⟩ := (Rws.start (ds := gs ++ [.list [.int 1]])).more gok s1 q1
              have b1 := bk.same s1
              refine ⟨_, rfl, L10, _, _, _, rfl, rfl, SqL.of (wos_sub _ _ b1.some_), atI_nat (j := 2) rfl, ?_⟩
              obtain ⟨dx2, fs2, hx2, -, -, nf2, -⟩ := b1.i2.ins
              refine ⟨a2, dx2, fs2, rfl, hx2, nf2.get (by decide +kernel), b1.i2.ask (E := E0) (e := ("_weights", .list (gs ++ [.list [.int 1]]))) (by simp) (gok.fit 1) fun z2 H2 s2 q2 => ?_⟩
              obtain ⟨r2, rfl, w2⟩ := (w1).more gok s2 q2
              have b2 := b1.same s2
              refine ⟨_, rfl, L10, _, _, _, rfl, rfl, SqL.of (wos_sub _ _ b2.some_), atI_nat (j := 3) rfl, ?_⟩
              obtain ⟨dx3, fs3, hx3, -, -, nf3, -⟩ := b2.i3.ins
              refine ⟨a3, dx3, fs3, rfl, hx3, nf3.get (by decide +kernel), b2.i3.ask (E := E0) (e := ("_factors", .list (gs ++ [.list [.int 1]]))) (by simp) (gok.fit 1) fun z3 H3 s3 q3 => ?_⟩
              obtain ⟨r3, rfl, w3⟩ := (w2).more gok s3 q3
              have b3 := b2.same s3
              refine ⟨_, rfl, L10, _, _, _, rfl, rfl, SqL.of (wos_sub _ _ b3.some_), atI_nat (j := 3) rfl, ?_⟩
              obtain ⟨dx4, fs4, hx4, -, -, nf4, -⟩ := b3.i3.ins
              refine ⟨a3, dx4, fs4, rfl, hx4, nf4.get (by decide +kernel), b3.i3.ask (E := E0) (e := ("_values", .list (gs ++ [.list [.int 1]]))) (by simp) (gok.fit 1) fun z4 H4 s4 q4 => ?_⟩
              obtain ⟨r4, rfl, w4⟩ := (w3).more gok s4 q4
              have b4 := b3.same s4
              refine ⟨_, rfl, L10, _, _, _, rfl, rfl, SqL.of (wos_sub _ _ b4.some_), atI_nat (j := 4) rfl, ?_⟩
              obtain ⟨dx5, fs5, hx5, -, -, nf5, -⟩ := b4.i4.ins
              refine ⟨a4, dx5, fs5, rfl, hx5, nf5.get (by decide +kernel), b4.i4.ask (E := E0) (e := ("_factors", .list (gs ++ [.list [.int 1]]))) (by simp) (gok.fit 1) fun z5 H5 s5 q5 => ?_⟩
              obtain ⟨r5, rfl, w5⟩ := (w4).more gok s5 q5
              have b5 := b4.same s5
              refine ⟨_, rfl, L10, _, _, _, rfl, rfl, SqL.of (wos_sub _ _ b5.some_), atI_nat (j := 4) rfl, ?_⟩
              obtain ⟨dx6, fs6, hx6, -, -, nf6, -⟩ := b5.i4.ins
              refine ⟨a4, dx6, fs6, rfl, hx6, nf6.get (by decide +kernel), b5.i4.ask (E := E0) (e := ("_direction", .list (gs ++ [.list [.int 1]]))) (by simp) (gok.fit 1) fun z6 H6 s6 q6 => ?_⟩
              obtain ⟨r6, rfl, w6⟩ := (w5).more gok s6 q6
              have b6 := b5.same s6
              refine ⟨small_line (by show 6 ≤ 1000; decide), fun L16 h16 => ⟨_, _, _, _, _, _, _, _, _, _, L16, G, [r1, r2, r3, r4, r5, r6], rfl, ⟨bk, hW⟩, w6.chg h16, rfl, fun r hr => (w6.dq r hr).same (same_upd h16)⟩⟩
            clear bk hW
            rintro σ G ⟨o2, o5, o6, o7, o12, o13, o14, o15, o17, o18, L16, G0, fp, rfl, ⟨bk, hW⟩, ch, l6, dq⟩
            -- the second test
            refine ⟨fun σ G => ∃ o2 o5 o6 o7 o12 o13 o14 o15 o17 o18 : Option V, σ = [some (.ref a), some (.ref p), o2, some (.ref M), some vn, o5, o6, o7, some (.ref L8), some vv, some (.ref L10), some (.ref W), o12, o13, o14, o15, some (.ref L16), o17, o18] ∧ Chg G0 G L16 (fp.map fun r => V.ref r.1) fp, ?_, ?_⟩
            · have b0 := bk.same ch.same
              have rep6 : ∀ d : PyData, List.replicate fp.length d = [d, d, d, d, d, d] := fun d => by rw [l6]; rfl
              refine ⟨_, rfl, _, rfl, small_line (by show 1 ≤ 1000; decide), fun p1 h1 => ⟨p1, 6, _, rfl, rfl, upd_same, by decide, by decide, by show 1 * 6 ≤ sizeLine; decide, fun p2 h2 => ?_⟩⟩
              have m1 := same_upd (o := .lst [.ref L8]) h1
              have m2 := same_upd (o := .lst (List.replicate (6 : Int).toNat [V.ref L8]).flatten) h2
              have m12 := m1.trans m2
              have d8 := Dp.same wos_sub _ _ b0.kept
              refine ⟨.ref L16, .ref p2, .list [.list (gs ++ [.list [.int 1]]), .list (gs ++ [.list [.int 1]]), .list (gs ++ [.list [.int 1]]), .list (gs ++ [.list [.int 1]]), .list (gs ++ [.list [.int 1]]), .list (gs ++ [.list [.int 1]])], .list [.list (gs ++ [.list [.int 1]]), .list (gs ++ [.list [.int 1]]), .list (gs ++ [.list [.int 1]]), .list (gs ++ [.list [.int 1]]), .list (gs ++ [.list [.int 1]]), .list (gs ++ [.list [.int 1]])], rfl, .lst (SqL.of (m12 _ _ ch.lst)) (by rw [← rep6]; exact DpAll.same m12 _ _ (rows_dp dq)), ?_, six_sm gok, six_sm gok, _, rfl, ?_⟩
              · have e := Dp.same m12 _ _ d8
                exact .lst (SqL.of upd_same) (.cons e (.cons e (.cons e (.cons e (.cons e (.cons e .nil))))))
              rw [decide_eq_true rfl]
              refine iteF ?_
              have b2 := b0.same m12
              refine ⟨_, rfl, L10, _, _, _, rfl, rfl, SqL.of (wos_sub _ _ b2.some_), atI_nat (j := 3) rfl, ?_⟩
              obtain ⟨dx3, fs3, hx3, -, -, nf3, -⟩ := b2.i3.ins
              refine ⟨a3, dx3, fs3, rfl, hx3, nf3.get (by decide +kernel), b2.i3.ask (E := E0) (e := ("_weights", dv)) (by simp) (vaD_fit iv 3) fun z3 H3 s3 q3 => ?_⟩
              have b3 := b2.same s3
              refine ⟨_, rfl, L10, _, _, _, rfl, rfl, SqL.of (wos_sub _ _ b3.some_), atI_nat (j := 4) rfl, ?_⟩
              obtain ⟨dx4, fs4, hx4, -, -, nf4, -⟩ := b3.i4.ins
              refine ⟨a4, dx4, fs4, rfl, hx4, nf4.get (by decide +kernel), b3.i4.ask (E := E0) (e := ("_values", dv)) (by simp) (vaD_fit iv 3) fun z4 H4 s4 q4 => ?_⟩
              have b4 := b3.same s4
              rw [vaD_listD iv] at q3 q4
              have nsub : ∀ {A B : Hp}, Same (newer A B) B := fun {A B} b o e => by
                cases q : A b with
                | some x =>
                  rw [newer_none q] at e
                  cases e
                | none =>
                  rw [newer_at q] at e
                  exact e
              refine ⟨_, rfl, L10, _, _, _, rfl, rfl, SqL.of (wos_sub _ _ b4.some_), atI_nat (j := 3) rfl, ?_⟩
              obtain ⟨dx5, fs5, hx5, ia5, -, nf5, fld5⟩ := b4.i3.ins
              obtain ⟨v5, ln5, dn5⟩ := fld5 ("number", ratT s) (by simp)
              refine ⟨a3, k3.C, dx5, _, _, rfl, hx5, ia5.c.cl, ia5.c.nN, ln5, small_line (by show 3 ≤ 1000; decide), fun A hA => ?_⟩
              have mA := same_upd (o := .lst [z3, z4, v5]) hA
              refine ⟨_, rfl, _, rfl, _, rfl, small_line (by show 3 ≤ 1000; decide), fun B hB => ?_⟩
              have mB := same_upd (o := .lst [vv, vv, vn]) hB
              have b5 := b4.same (mA.trans mB)
              have dv5 := Dp.same wos_sub _ _ b5.val
              refine ⟨.ref A, .ref B, .list [dv, dv, ratT s], .list [dv, dv, ratT s], rfl, .lst (SqL.of (mB _ _ upd_same)) (.cons (Dp.same (nsub.trans (s4.trans (mA.trans mB))) _ _ q3.dp) (.cons (Dp.same (nsub.trans (mA.trans mB)) _ _ q4.dp) (.cons (Dp.same (mA.trans mB) _ _ dn5) .nil))), .lst (SqL.of upd_same) (.cons dv5 (.cons dv5 (.cons (Dp.same wos_sub _ _ b5.num) .nil))), three_sm iv bk.wd, three_sm iv bk.wd, _, rfl, ?_⟩
              rw [decide_eq_true rfl]
              exact iteF ⟨_, _, _, _, _, _, _, _, _, _, rfl, ch.on (m12.trans (s3.trans (s4.trans (mA.trans mB))))⟩
            clear dq
            rintro σ G ⟨o2, o5, o6, o7, o12, o13, o14, o15, o17, o18, rfl, ch⟩
            -- the lists are changed
            refine ⟨_, rfl, L16, rfl, ⟨_, SqL.of ch.lst⟩, for_list (K := K) (a := L16) (xs := fp.map fun r => V.ref r.1) (fun i σ G => ∃ o2 o5 o6 o7 o12 o13 o14 o15 o17 o18 : Option V, σ = [some (.ref a), some (.ref p), o2, some (.ref M), some vn, o5, o6, o7, some (.ref L8), some vv, some (.ref L10), some (.ref W), o12, o13, o14, o15, some (.ref L16), o17, o18] ∧ Chg G0 G L16 (fp.map fun r => V.ref r.1) (fp.drop i)) ⟨_, _, _, _, _, _, _, _, _, _, rfl, ch⟩ (fun i σ G _ c => ?_) (fun i x σ G hx c => ?_) (fun σ G c => ?_)⟩
            · obtain ⟨o2, o5, o6, o7, o12, o13, o14, o15, o17, o18, rfl, c⟩ := c
              exact SqL.of c.lst
            · obtain ⟨o2, o5, o6, o7, o12, o13, o14, o15, o17, o18, rfl, c⟩ := c
              rw [List.getElem?_map] at hx
              obtain ⟨r, hr, rfl⟩ := Option.map_eq_some_iff.mp hx
              obtain ⟨hlt, er⟩ := List.getElem?_eq_some_iff.mp hr
              have ed : fp.drop i = r :: fp.drop (i + 1) := by rw [List.drop_eq_getElem_cons hlt, er]
              rw [ed] at c
              obtain ⟨hA, hB, lr⟩ := c.at_ r List.mem_cons_self
              have nd := c.nd
              rw [flat_cons] at nd
              have nAB : r.1 ≠ r.2.1 := fun z => (List.nodup_cons.mp nd).1 (by rw [z]; exact List.mem_cons_self)
              have hA' : upd G r.2.1 (.lst [.int 1, .str "zz"]) r.1 = some (.lst (r.2.2 ++ [.ref r.2.1])) := by rw [upd_ne nAB]; exact hA
              refine ⟨_, rfl, 1, rfl, r.1, _, _, _, rfl, rfl, SqL.of hA, atI_last _ _, .inl ⟨rfl, _, SqL.of hB⟩, r.2.1, [.int 1], _, rfl, rfl, hB, by decide, ?_⟩
              refine ⟨_, rfl, .inl ⟨rfl, _, SqL.of hA'⟩, r.1, _, _, rfl, rfl, hA', ?_, _, _, _, _, _, _, _, _, _, _, rfl, c.step⟩
              rw [List.length_append]
              exact Nat.lt_of_le_of_lt (Nat.add_le_add_right lr 1) (show 2 + 1 < sizeLine by decide)
            · obtain ⟨o2, o5, o6, o7, o12, o13, o14, o15, o17, o18, rfl, c⟩ := c
              exact ⟨_, _, _, _, _, _, _, _, _, _, _, rfl, bk.same c.same, c.same _ _ hW⟩
          · rintro σ G ⟨o2, o5, o6, o7, o12, o13, o14, o15, o16, o17, o18, rfl, bk, -⟩
            exact ⟨_, _, _, _, _, _, _, _, _, _, _, rfl, bk⟩
        clear bk hW
        rintro σ G ⟨o2, o5, o6, o7, o12, o13, o14, o15, o16, o17, o18, rfl, bk⟩
        -- an odd number
        refine ⟨fun σ G => ∃ o2 o4 o5 o6 o7 o8 o9 o11 o12 o13 o14 o15 o16 o17 : Option V, ∃ (vo : V) (od : PyData), σ = [some (.ref a), some (.ref p), o2, some (.ref M), o4, o5, o6, o7, o8, o9, some (.ref L10), o11, o12, o13, o14, o15, o16, o17, some vo] ∧ Bk P w K mg base CP p q ns D I k0 k1 k2 k3 k4 M n vn s L8 (gs ++ [.list [.int 1]]) vv dv L10 a0 a1 a2 a3 a4 G ∧ Dp K G vo od ∧ VG.fit 2 od = true ∧ isRat od = false, ?_, ?_⟩
        · refine ⟨_, rfl, small_line (by show 2 ≤ 1000; decide), fun A1 hA1 => ⟨small_line (by show 4 ≤ 1000; decide), fun L hL => ?_⟩⟩
          have mA1 := same_upd (o := .lst [.int 1, .int 2]) hA1
          have mL := same_upd (o := .lst [.non, .int 3, .str "3/2", .ref A1]) hL
          have nA : A1 ≠ p := (bk.src.out hA1).1
          have S2 := bk.src.on (mA1.trans mL)
          have nL : L ≠ p := ((bk.src.on mA1).out hL).1
          refine ⟨p, q, ns, .ref L, rfl, S2, .inl ⟨L, _, rfl, fun H' b => .inl (SqL.of (by rw [b L nL]; exact upd_same)), by show 0 < 4; decide, by show 4 < 1000000; decide, fun j x G3 hx S3 B3 => ?_⟩⟩
          have e3 : Exs [D, I, p] G G3 := (Exs.of (mA1.trans mL)).trans (Exs.but (List.mem_cons_of_mem _ (List.mem_cons_of_mem _ List.mem_cons_self)) B3)
          obtain ⟨od, d1, d2, d3⟩ : ∃ d, Dp K G3 x d ∧ VG.fit 2 d = true ∧ isRat d = false := by
            rcases (show j = 0 ∨ j = 1 ∨ j = 2 ∨ j = 3 ∨ 4 ≤ j by omega) with rfl | rfl | rfl | rfl | h4
            · cases hx; exact ⟨_, .non, rfl, rfl⟩
            · cases hx; exact ⟨_, .int 3, rfl, rfl⟩
            · cases hx; exact ⟨_, .str "3/2", rfl, rfl⟩
            · cases hx; exact ⟨_, .lst (SqL.of (by rw [B3 _ nA]; exact mL _ _ upd_same)) (.cons (.int 1) (.cons (.int 2) .nil)), rfl, rfl⟩
            · rw [List.getElem?_eq_none (by show 4 ≤ j; exact h4)] at hx; cases hx
          exact ⟨_, _, _, _, _, _, _, _, _, _, _, _, _, _, x, od, rfl, bk.on e3 S3, d1, d2, d3⟩
        clear bk
        rintro σ G ⟨o2, o4, o5, o6, o7, o8, o9, o11, o12, o13, o14, o15, o16, o17, vo, od, rfl, bk, d1, d2, d3⟩
        have nsub : ∀ {A B : Hp}, Same (newer A B) B := fun {A B} b o e => by
          cases q : A b with
          | some x =>
            rw [newer_none q] at e
            cases e
          | none =>
            rw [newer_at q] at e
            exact e
        refine ⟨_, rfl, Nat.zero_le _, fun E1 h1 => ⟨_, rfl, Nat.zero_le _, fun E2 h2 => ⟨Nat.zero_le _, fun E3 h3 => fun x3 y3 hx3 hy3 ne3 => ?_⟩⟩⟩
        have m1 := same_upd (o := .lst []) h1
        have m2 := same_upd (o := .lst []) h2
        have m3 := same_upd (o := .lst []) h3
        have el : ∀ {H : Hp} {A : Addr}, H A = some (.lst []) → Dp K H (.ref A) (.list []) := fun h => .lst (SqL.of h) .nil
        refine madeT hx3 hy3 k3.c T.s3 T.s3' (el (m3 _ _ upd_same)) rfl (el (m3 _ _ (m2 _ _ upd_same))) rfl (el upd_same) rfl (Dp.same (m1.trans (m2.trans m3)) _ _ d1) d2 fun H3 s3 i3 => ?_
        obtain ⟨dx3, fs3, hI3, -, nf3, fl3⟩ := i3
        obtain ⟨nv, ln, dn'⟩ := fl3 ("number", od) (by simp)
        have hI3' := nsub _ _ hI3
        refine ⟨x3, dx3, fs3, rfl, hI3', nf3.get (by decide +kernel), ?_⟩
        rw [T.t3.1]
        refine ⟨x3, k3.C, fs3, k3.kd, k3.u, nv, od, rfl, ⟨⟨dx3, hI3'⟩, k3.c⟩, k3.kind, nf3.get (by decide +kernel), by rw [T.t3.2.1]; decide +kernel, ln, Dp.same nsub _ _ dn'.dp, .inl ⟨d3, rfl, _, rfl, ?_⟩⟩
        rw [T.t3.2.1, decide_eq_true rfl]
        refine iteF ⟨_, rfl, small_line (by show 2 ≤ 1000; decide), fun t1 ht1 => fun x1 y1 hx1 hy1 ne1 => ?_⟩
        have mt := same_upd (o := .tup [.int 1, .non]) ht1
        refine madeS hx1 hy1 k1.c T.s1 (.tup (SqT.of upd_same) (.cons (.int 1) (.cons .non .nil))) rfl fun H1 s1 i1 => ?_
        obtain ⟨dx1, fs1, hI1, -, nf1, fl1⟩ := i1
        obtain ⟨nv1, ln1, dn1⟩ := fl1 ("_values", _) List.mem_cons_self
        have hI1' := nsub _ _ hI1
        refine ⟨x1, dx1, fs1, rfl, hI1', nf1.get (by decide +kernel), x1, k1.C, fs1, nv1, _, rfl, ⟨⟨dx1, hI1'⟩, k1.c⟩, ln1, Dp.same nsub _ _ dn1.dp, rfl, fun z4 H4 s4 q4 => ⟨small_line (by show 2 ≤ 1000; decide), fun b1 hb1 => ?_⟩⟩
        have mb := same_upd (o := .lst [.int 1, .non]) hb1
        refine ⟨.list [.int 1, .none], .list [.int 1, .none], Dp.same (nsub.trans mb) _ _ q4.dp, .lst (SqL.of upd_same) (.cons (.int 1) (.cons .non .nil)), rfl, rfl, _, rfl, iteF ?_⟩
        have be := bk.same (((m1.trans m2).trans m3).trans (s3.trans (mt.trans (s1.trans (s4.trans mb)))))
        obtain ⟨dxe, fse, hxe, -, -, -, -⟩ := be.i2.ins
        exact ⟨_, _, _, _, _, _, _, _, _, _, _, _, _, _, _, _, _, rfl, be.src, fun _ => ⟨L10, a0, a1, a2, a3, a4, rfl, wos_sub _ _ be.some_, dxe, fse, hxe⟩⟩
      · rintro σ G ⟨o2, o3, o4, o5, o6, o7, o8, o9, o11, o12, o13, o14, o15, o16, o17, o18, o10, rfl, S0, h⟩
        obtain ⟨L10, a0, a1, a2, a3, a4, rfl, h1, h2⟩ := h (by decide)
        exact ⟨_, _, _, _, _, _, _, _, _, _, _, _, _, _, _, _, L10, a0, a1, a2, a3, a4, rfl, h1, h2⟩
    · rintro σ G ⟨o2, o3, o4, o5, o6, o7, o8, o9, o11, o12, o13, o14, o15, o16, o17, o18, L10, a0, a1, a2, a3, a4, rfl, h1, dx, fs, h2⟩
      obtain ⟨r0, u0, c0⟩ := T.r0
      obtain ⟨r2, u2, c2⟩ := T.r2
      obtain ⟨r4, u4, c4⟩ := T.r4
      refine ⟨_, _, _, _, rfl, r0, c0, _, _, _, _, rfl, r2, c2, _, _, _, _, rfl, r4, c4, small_line (by show 3 ≤ 1000; decide), fun A hA => ⟨small_line (by show 3 ≤ 1000; decide), fun B hB => ?_⟩⟩
      have mA := same_upd (o := .lst [.str "open", .str "barred", .str "endless"]) hA
      have mB := same_upd (o := .lst [.str "open", .str "barred", .str "endless"]) hB
      refine ⟨.list [.str "open", .str "barred", .str "endless"], .list [.str "open", .str "barred", .str "endless"], .lst (SqL.of (mB _ _ upd_same)) (.cons (.str _) (.cons (.str _) (.cons (.str _) .nil))), .lst (SqL.of upd_same) (.cons (.str _) (.cons (.str _) (.cons (.str _) .nil))), by decide +kernel, by decide +kernel, ?_⟩
      rw [eqv_refl _ (by decide +kernel)]
      have h2' := (mA.trans mB) _ _ h2
      exact ⟨_, rfl, iteT ⟨_, rfl, L10, _, _, _, rfl, rfl, SqL.of ((mA.trans mB) _ _ h1), atI_nat (j := 2) rfl, _, _, _, _, false, rfl, .own _, k2.ty h2', T.aT, _, rfl, k _⟩⟩
end
end Lw

set_option maxRecDepth 100000
set_option maxHeartbeats 0
namespace Lw
open PySem PySem.Spec PyProof.Rows L2 VG
theorem vals_rev : ∀ {xs : List V} {us : List Value}, Vals xs us → Vals xs.reverse us.reverse
  | _, _, .nil => .nil
  | _, _, .cons r t => by
    rw [List.reverse_cons, List.reverse_cons]
    exact (vals_rev t).append (.cons r .nil)
abbrev L : PySem.W.OpenLaw := PySem.Challenge.rw_missingmiles_k12_answers_told
theorem vals_turn {vs : List V} {us : List Value} {zs : List V} {ws : List Value} (h1 : Vals vs us) (h2 : Vals zs ws) : Vals (turn4 vs zs) (turn4 us ws) := by
  cases h2 with
  | nil => exact h1.append .nil
  | cons a t =>
    cases t with
    | nil => exact h1.append (.cons a .nil)
    | cons b t =>
      cases t with
      | nil => exact h1.append (.cons a (.cons b .nil))
      | cons c t =>
        cases t with
        | nil => exact h1.append (.cons a (.cons b (.cons c .nil)))
        | cons d t =>
          cases t with
          | nil => exact h1.append (.cons c (.cons b (.cons a (.cons d .nil))))
          | cons e t => exact h1.append (.cons a (.cons b (.cons c (.cons d (.cons e t)))))
theorem all5 {a b c d e : Addr} {p : Addr → Prop} (h1 : p a) (h2 : p b) (h3 : p c) (h4 : p d) (h5 : p e) : ∀ k ∈ [a, b, c, d, e], p k := fun k hk => by
  simp only [List.mem_cons, List.not_mem_nil, or_false] at hk
  rcases hk with rfl | rfl | rfl | rfl | rfl
  · exact h1
  · exact h2
  · exact h3
  · exact h4
  · exact h5
theorem facts {w : World} {K : PySem.W.Frag} {h : Heap} {mg : Str → Option Value} {f : Addr} (X : K.In h) (G : h.Ns mainGlobals mg) (hfa : mg ("law" : Str) = some (.ref f)) (cP : SaysP fas fns tfs more ins pros w h K) : LawG L w K CX0 10 63 "_law_script" mg f h := by
  have c := cP.i
  have d := c.x.t.d
  have e := hfa.symm.trans (He.glo_ok X G (d.fact 0 (f := .glo "law") rfl))
  cases e
  have gl : ∀ {x : Str} (i : Nat), fas[i]? = some (.glo x) → mg x = some (.ref (He.ga K x)) := fun i hi => He.glo_ok X G (d.fact i hi)
  have fr : ∀ {x : Str} (i : Nat), fas[i]? = some (.free x) → mg x = none := fun i hi => He.free_ok X G (d.fact i hi)
  obtain ⟨fd0, F0⟩ := d.def_ 0 (d := glb "law" sLaw []) rfl
  obtain ⟨fd1, F1⟩ := d.def_ 1 (d := glb "_law_source" sSource []) rfl
  obtain ⟨fd2, F2⟩ := d.def_ 2 (d := glb "_law_draw" sDraw []) rfl
  obtain ⟨fd3, F3⟩ := d.def_ 3 (d := glb "_law_of" sOf []) rfl
  obtain ⟨fd4, F4⟩ := d.def_ 4 (d := glb "_law_same" sSame []) rfl
  obtain ⟨fd5, F5⟩ := d.def_ 5 (d := glb "_law_low" s__law_low []) rfl
  obtain ⟨fd6, F6⟩ := d.def_ 6 (d := glb "_law_wide" s__law_wide []) rfl
  obtain ⟨fd7, F7⟩ := d.def_ 7 (d := glb "_law_pair" s__law_pair []) rfl
  obtain ⟨fd8, F8⟩ := d.def_ 8 (d := glb "_law_text" s__law_text []) rfl
  obtain ⟨fd9, F9⟩ := d.def_ 9 (d := glb "copied" s_copied []) rfl
  obtain ⟨fd10, F10⟩ := d.def_ 10 (d := glb "listed" s_listed []) rfl
  obtain ⟨fd11, F11⟩ := d.def_ 11 (d := glb "_is_whole" s__is_whole []) rfl
  obtain ⟨fd12, F12⟩ := d.def_ 12 (d := glb "is_number" s_is_number []) rfl
  obtain ⟨fd13, F13⟩ := d.def_ 13 (d := glb "is_ratio" s_is_ratio []) rfl
  obtain ⟨fd14, F14⟩ := d.def_ 14 (d := glb "can_be_ratio" s_can_be_ratio []) rfl
  obtain ⟨fd15, F15⟩ := d.def_ 15 (d := glb "ratio_of" s_ratio_of []) rfl
  obtain ⟨fd16, F16⟩ := d.def_ 16 (d := glb "_figures" s__figures []) rfl
  obtain ⟨fd17, F17⟩ := d.def_ 17 (d := glb "ratio_text" s_ratio_text []) rfl
  obtain ⟨fd18, F18⟩ := d.def_ 18 (d := glb "are_factors" s_are_factors []) rfl
  obtain ⟨fd19, F19⟩ := d.def_ 19 (d := glb "ratios_of" s_ratios_of []) rfl
  obtain ⟨fd20, F20⟩ := d.def_ 20 (d := glb "_row_of" s__row_of []) rfl
  obtain ⟨fd21, F21⟩ := d.def_ 21 (d := glb "_rows_of" s__rows_of []) rfl
  obtain ⟨fd22, F22⟩ := d.def_ 22 (d := mthD "Problem" "__init__" pInit [.adr dfl0] []) rfl
  obtain ⟨fd23, F23⟩ := d.def_ 23 (d := mth "Problem" "__eq__" pEq) rfl
  obtain ⟨fd24, F24⟩ := d.def_ 24 (d := mth "Answer" "__init__" aInit) rfl
  obtain ⟨fd25, F25⟩ := d.def_ 25 (d := mth "Answer" "told" aTold) rfl
  obtain ⟨fd26, F26⟩ := d.def_ 26 (d := mth "Answer" "__bool__" aBool) rfl
  obtain ⟨fd27, F27⟩ := d.def_ 27 (d := mth "Answer" "__repr__" aRepr) rfl
  obtain ⟨fd28, F28⟩ := d.def_ 28 (d := ⟨("Solved", some "told"), "told", "Answer.told", defArgs aTold, defBody aTold, defScope aTold, [], []⟩) rfl
  obtain ⟨fd29, F29⟩ := d.def_ 29 (d := mth "Solved" "__bool__" sBool) rfl
  obtain ⟨fd30, F30⟩ := d.def_ 30 (d := ⟨("Solved", some "__repr__"), "__repr__", "Answer.__repr__", defArgs aRepr, defBody aRepr, defScope aRepr, [], []⟩) rfl
  obtain ⟨fd31, F31⟩ := d.def_ 31 (d := ⟨("Barred", some "told"), "told", "Answer.told", defArgs aTold, defBody aTold, defScope aTold, [], []⟩) rfl
  obtain ⟨fd32, F32⟩ := d.def_ 32 (d := ⟨("Barred", some "__bool__"), "__bool__", "Answer.__bool__", defArgs aBool, defBody aBool, defScope aBool, [], []⟩) rfl
  obtain ⟨fd33, F33⟩ := d.def_ 33 (d := ⟨("Barred", some "__repr__"), "__repr__", "Answer.__repr__", defArgs aRepr, defBody aRepr, defScope aRepr, [], []⟩) rfl
  obtain ⟨fd34, F34⟩ := d.def_ 34 (d := mth "Top" "told" tTold) rfl
  obtain ⟨fd35, F35⟩ := d.def_ 35 (d := ⟨("Top", some "__bool__"), "__bool__", "Solved.__bool__", defArgs sBool, defBody sBool, defScope sBool, [], []⟩) rfl
  obtain ⟨fd36, F36⟩ := d.def_ 36 (d := ⟨("Top", some "__repr__"), "__repr__", "Answer.__repr__", defArgs aRepr, defBody aRepr, defScope aRepr, [], []⟩) rfl
  obtain ⟨fd37, F37⟩ := d.def_ 37 (d := ⟨("Endless", some "told"), "told", "Answer.told", defArgs aTold, defBody aTold, defScope aTold, [], []⟩) rfl
  obtain ⟨fd38, F38⟩ := d.def_ 38 (d := ⟨("Endless", some "__bool__"), "__bool__", "Solved.__bool__", defArgs sBool, defBody sBool, defScope sBool, [], []⟩) rfl
  obtain ⟨fd39, F39⟩ := d.def_ 39 (d := ⟨("Endless", some "__repr__"), "__repr__", "Answer.__repr__", defArgs aRepr, defBody aRepr, defScope aRepr, [], []⟩) rfl
  obtain ⟨fd40, F40⟩ := d.def_ 40 (d := mth "Answer" "holds" aHolds) rfl
  obtain ⟨fd41, F41⟩ := d.def_ 41 (d := mth "Solved" "numbers" sNumbers) rfl
  obtain ⟨fd42, F42⟩ := d.def_ 42 (d := ⟨("Top", some "numbers"), "numbers", "Solved.numbers", defArgs sNumbers, defBody sNumbers, defScope sNumbers, [], []⟩) rfl
  obtain ⟨fd43, F43⟩ := d.def_ 43 (d := ⟨("Endless", some "numbers"), "numbers", "Solved.numbers", defArgs sNumbers, defBody sNumbers, defScope sNumbers, [], []⟩) rfl
  obtain ⟨fd44, F44⟩ := d.def_ 44 (d := mth "Barred" "weights" bWeights) rfl
  obtain ⟨fd45, F45⟩ := d.def_ 45 (d := mth "Top" "factors" tFactors) rfl
  obtain ⟨fd46, F46⟩ := d.def_ 46 (d := mth "Top" "weights" tWeights) rfl
  obtain ⟨fd47, F47⟩ := d.def_ 47 (d := mth "Endless" "factors" eFactors) rfl
  obtain ⟨fd48, F48⟩ := d.def_ 48 (d := mth "Endless" "direction" eDirection) rfl
  have b0 := FunD.bindsA (ps := ["_law_script"]) F0 fun _ _ _ _ _ _ us hl => match us, hl with | [_], _ => rfl
  have b1 := FunD.bindsN (ps := ["_law_script"]) F1 fun _ _ _ _ _ _ us hl => match us, hl with | [_], _ => rfl
  have b2 := FunD.bindsN (ps := ["_law_src", "_law_many"]) F2 fun _ _ _ _ _ _ us hl => match us, hl with | [_, _], _ => rfl
  have b3 := FunD.bindsN (ps := ["_law_src", "_law_some"]) F3 fun _ _ _ _ _ _ us hl => match us, hl with | [_, _], _ => rfl
  have b4 := FunD.bindsN (ps := ["_law_found", "_law_due"]) F4 fun _ _ _ _ _ _ us hl => match us, hl with | [_, _], _ => rfl
  have b5 := FunD.bindsN (ps := ["_law_top", "_law_bottom"]) F5 fun _ _ _ _ _ _ us hl => match us, hl with | [_, _], _ => rfl
  have b6 := FunD.bindsN (ps := ["_law_src"]) F6 fun _ _ _ _ _ _ us hl => match us, hl with | [_], _ => rfl
  have b7 := FunD.bindsN (ps := ["_law_value"]) F7 fun _ _ _ _ _ _ us hl => match us, hl with | [_], _ => rfl
  have b8 := FunD.bindsN (ps := ["_law_value"]) F8 fun _ _ _ _ _ _ us hl => match us, hl with | [_], _ => rfl
  have b9 := FunD.bindsN (ps := ["value"]) F9 fun _ _ _ _ _ _ us hl => match us, hl with | [_], _ => rfl
  have b10 := FunD.bindsN (ps := ["value"]) F10 fun _ _ _ _ _ _ us hl => match us, hl with | [_], _ => rfl
  have b11 := FunD.bindsN (ps := ["value"]) F11 fun _ _ _ _ _ _ us hl => match us, hl with | [_], _ => rfl
  have b12 := FunD.bindsN (ps := ["value", "least", "most"]) F12 fun _ _ _ _ _ _ us hl => match us, hl with | [_, _, _], _ => rfl
  have b13 := FunD.bindsN (ps := ["value"]) F13 fun _ _ _ _ _ _ us hl => match us, hl with | [_], _ => rfl
  have b14 := FunD.bindsN (ps := ["value"]) F14 fun _ _ _ _ _ _ us hl => match us, hl with | [_], _ => rfl
  have b15 := FunD.bindsN (ps := ["value"]) F15 fun _ _ _ _ _ _ us hl => match us, hl with | [_], _ => rfl
  have b16 := FunD.bindsN (ps := ["number"]) F16 fun _ _ _ _ _ _ us hl => match us, hl with | [_], _ => rfl
  have b17 := FunD.bindsN (ps := ["value"]) F17 fun _ _ _ _ _ _ us hl => match us, hl with | [_], _ => rfl
  have b18 := FunD.bindsN (ps := ["value", "many"]) F18 fun _ _ _ _ _ _ us hl => match us, hl with | [_, _], _ => rfl
  have b19 := FunD.bindsN (ps := ["factors"]) F19 fun _ _ _ _ _ _ us hl => match us, hl with | [_], _ => rfl
  have b20 := FunD.bindsN (ps := ["value", "size"]) F20 fun _ _ _ _ _ _ us hl => match us, hl with | [_, _], _ => rfl
  have b21 := FunD.bindsN (ps := ["values", "size"]) F21 fun _ _ _ _ _ _ us hl => match us, hl with | [_, _], _ => rfl
  have b23 := FunD.bindsN (ps := ["self", "other"]) F23 fun _ _ _ _ _ _ us hl => match us, hl with | [_, _], _ => rfl
  have b24 := FunD.bindsN (ps := ["self", "problem"]) F24 fun _ _ _ _ _ _ us hl => match us, hl with | [_, _], _ => rfl
  have b25 := FunD.bindsN (ps := ["self"]) F25 fun _ _ _ _ _ _ us hl => match us, hl with | [_], _ => rfl
  have b26 := FunD.bindsN (ps := ["self"]) F26 fun _ _ _ _ _ _ us hl => match us, hl with | [_], _ => rfl
  have b27 := FunD.bindsN (ps := ["self"]) F27 fun _ _ _ _ _ _ us hl => match us, hl with | [_], _ => rfl
  have b28 := FunD.bindsN (ps := ["self"]) F28 fun _ _ _ _ _ _ us hl => match us, hl with | [_], _ => rfl
  have b29 := FunD.bindsN (ps := ["self"]) F29 fun _ _ _ _ _ _ us hl => match us, hl with | [_], _ => rfl
  have b30 := FunD.bindsN (ps := ["self"]) F30 fun _ _ _ _ _ _ us hl => match us, hl with | [_], _ => rfl
  have b31 := FunD.bindsN (ps := ["self"]) F31 fun _ _ _ _ _ _ us hl => match us, hl with | [_], _ => rfl
  have b32 := FunD.bindsN (ps := ["self"]) F32 fun _ _ _ _ _ _ us hl => match us, hl with | [_], _ => rfl
  have b33 := FunD.bindsN (ps := ["self"]) F33 fun _ _ _ _ _ _ us hl => match us, hl with | [_], _ => rfl
  have b34 := FunD.bindsN (ps := ["self"]) F34 fun _ _ _ _ _ _ us hl => match us, hl with | [_], _ => rfl
  have b35 := FunD.bindsN (ps := ["self"]) F35 fun _ _ _ _ _ _ us hl => match us, hl with | [_], _ => rfl
  have b36 := FunD.bindsN (ps := ["self"]) F36 fun _ _ _ _ _ _ us hl => match us, hl with | [_], _ => rfl
  have b37 := FunD.bindsN (ps := ["self"]) F37 fun _ _ _ _ _ _ us hl => match us, hl with | [_], _ => rfl
  have b38 := FunD.bindsN (ps := ["self"]) F38 fun _ _ _ _ _ _ us hl => match us, hl with | [_], _ => rfl
  have b39 := FunD.bindsN (ps := ["self"]) F39 fun _ _ _ _ _ _ us hl => match us, hl with | [_], _ => rfl
  have b40 := FunD.bindsN (ps := ["self"]) F40 fun _ _ _ _ _ _ us hl => match us, hl with | [_], _ => rfl
  have b41 := FunD.bindsN (ps := ["self"]) F41 fun _ _ _ _ _ _ us hl => match us, hl with | [_], _ => rfl
  have b42 := FunD.bindsN (ps := ["self"]) F42 fun _ _ _ _ _ _ us hl => match us, hl with | [_], _ => rfl
  have b43 := FunD.bindsN (ps := ["self"]) F43 fun _ _ _ _ _ _ us hl => match us, hl with | [_], _ => rfl
  have b44 := FunD.bindsN (ps := ["self"]) F44 fun _ _ _ _ _ _ us hl => match us, hl with | [_], _ => rfl
  have b45 := FunD.bindsN (ps := ["self"]) F45 fun _ _ _ _ _ _ us hl => match us, hl with | [_], _ => rfl
  have b46 := FunD.bindsN (ps := ["self"]) F46 fun _ _ _ _ _ _ us hl => match us, hl with | [_], _ => rfl
  have b47 := FunD.bindsN (ps := ["self"]) F47 fun _ _ _ _ _ _ us hl => match us, hl with | [_], _ => rfl
  have b48 := FunD.bindsN (ps := ["self"]) F48 fun _ _ _ _ _ _ us hl => match us, hl with | [_], _ => rfl
  have m := c.x.more
  obtain ⟨g0, m⟩ := He.ba m
  obtain ⟨g1, m⟩ := He.ba m
  obtain ⟨g2, m⟩ := He.ba m
  have g3 := m
  have m : more0 K = true := g0
  obtain ⟨m_most, m⟩ := He.ba m
  obtain ⟨m_gcd, m⟩ := He.ba m
  obtain ⟨m_insP, m⟩ := He.ba m
  obtain ⟨m_liP, m⟩ := He.ba m
  obtain ⟨m_nfP, m⟩ := He.ba m
  obtain ⟨m_pro, m⟩ := He.ba m
  obtain ⟨m_insAnswer, m⟩ := He.ba m
  obtain ⟨m_conAnswer, m⟩ := He.ba m
  obtain ⟨m_aAAnswer, m⟩ := He.ba m
  obtain ⟨m_aSAnswer, m⟩ := He.ba m
  obtain ⟨m_insSolved, m⟩ := He.ba m
  have m_conSolved := m
  have m : more1 K = true := g1
  obtain ⟨m_proISolved, m⟩ := He.ba m
  obtain ⟨m_sinSolved, m⟩ := He.ba m
  obtain ⟨m_aASolved, m⟩ := He.ba m
  obtain ⟨m_aSSolved, m⟩ := He.ba m
  obtain ⟨m_insBarred, m⟩ := He.ba m
  obtain ⟨m_conBarred, m⟩ := He.ba m
  obtain ⟨m_proIBarred, m⟩ := He.ba m
  obtain ⟨m_sinBarred, m⟩ := He.ba m
  obtain ⟨m_aABarred, m⟩ := He.ba m
  obtain ⟨m_aSBarred, m⟩ := He.ba m
  obtain ⟨m_insTop, m⟩ := He.ba m
  have m_conTop := m
  have m : more2 K = true := g2
  obtain ⟨m_proITop, m⟩ := He.ba m
  obtain ⟨m_sinTop, m⟩ := He.ba m
  obtain ⟨m_aATop, m⟩ := He.ba m
  obtain ⟨m_aSTop, m⟩ := He.ba m
  obtain ⟨m_insEndless, m⟩ := He.ba m
  obtain ⟨m_conEndless, m⟩ := He.ba m
  obtain ⟨m_proIEndless, m⟩ := He.ba m
  obtain ⟨m_sinEndless, m⟩ := He.ba m
  obtain ⟨m_aAEndless, m⟩ := He.ba m
  obtain ⟨m_aSEndless, m⟩ := He.ba m
  obtain ⟨m_aT, m⟩ := He.ba m
  have m_suSolvedSolved := m
  have m : more3 K = true := g3
  obtain ⟨m_suBarredBarred, m⟩ := He.ba m
  obtain ⟨m_suTopTop, m⟩ := He.ba m
  obtain ⟨m_suSolvedTop, m⟩ := He.ba m
  obtain ⟨m_suEndlessEndless, m⟩ := He.ba m
  obtain ⟨m_suSolvedEndless, m⟩ := He.ba m
  obtain ⟨m_cvAnswer, m⟩ := He.ba m
  obtain ⟨m_cvBarred, m⟩ := He.ba m
  have m_cvEndless := m
  have gg : mg "gcd" = some (.builtin "math.gcd") := PySem.W.mg_of X G (of_decide_eq_true m_gcd)
  obtain ⟨pPP, fdP, FP⟩ := proB_ok (d := pPr) (cP.pro_ pPr List.mem_cons_self) m_pro
  obtain ⟨i1, i2, i3, i4, i5⟩ := insB_ok m_insP
  have tN : Nm mg := ⟨(fr 97 rfl), (fr 98 rfl), (fr 99 rfl), (fr 100 rfl)⟩
  have tW : NmW mg := ⟨(fr 101 rfl), (fr 97 rfl), (fr 102 rfl)⟩
  have tR : NmR mg := ⟨tW, (fr 104 rfl), (fr 98 rfl), gg⟩
  have tQ : NmQ mg := ⟨tR, (fr 99 rfl), (fr 106 rfl), (fr 107 rfl)⟩
  have tC : NmC mg := ⟨(fr 101 rfl), (fr 99 rfl), (fr 104 rfl)⟩
  have tP : TxP K (He.ga K "Problem") := ⟨He.cls_ok (d.fact 25 rfl), He.noat_ok (d.fact 26 rfl), He.noat_ok (d.fact 27 rfl), He.conB_ok m_most⟩
  have tI : TxI K (He.ga K "Problem") := ⟨i1, i2, i3, i4, i5, of_decide_eq_true m_liP⟩
  obtain ⟨dsI, vI, bI⟩ := FunD.binds1 (ps := ["self", "size", "rows"]) F22 3 1 (by intro z; cases z) rfl fun T _ _ _ _ _ _ us its h1 h2 => match us, its, h1, h2 with | [_, _, _], [_], _, _ => ⟨_, rfl, rfl⟩
  have eI : dsI = [] := by
    cases (show Vals [] dsI from vI)
    rfl
  subst eI
  have bP := FunD.bindsN (ps := ["self"]) FP fun _ _ _ _ _ _ us hl => match us, hl with | [_], _ => rfl
  have top : (L.prog.main.scope.names.lookup ("super" : Str)).isSome = false := by kernel_rfl
  obtain ⟨ccSolved, cdaSolved, kVSolved, docSolved, pmSolved, anSolved, ctSolved, TSolved⟩ := subTxt_of (P := L.prog) (mg := mg) (nm := "Solved") (q := "Solved.__init__") (st := sInit) (by decide +kernel) (c.ini _ List.mem_cons_self) m_sinSolved (fr 109 rfl) top
  have bSolved : L2.Binds K (PySem.W.ksFn "__init__" "Solved.__init__" (defArgs sInit) (defBody sInit) (defScope sInit) .none kVSolved docSolved pmSolved anSolved (.ref cdaSolved) ctSolved ccSolved) ["self", "problem", "values"] [] := .all fun us hl => match us, hl with | [_, _, _], _ => rfl
  obtain ⟨ccBarred, cdaBarred, kVBarred, docBarred, pmBarred, anBarred, ctBarred, TBarred⟩ := subTxt_of (P := L.prog) (mg := mg) (nm := "Barred") (q := "Barred.__init__") (st := bInit) (by decide +kernel) (c.ini _ (List.mem_cons_of_mem _ List.mem_cons_self)) m_sinBarred (fr 109 rfl) top
  have bBarred : L2.Binds K (PySem.W.ksFn "__init__" "Barred.__init__" (defArgs bInit) (defBody bInit) (defScope bInit) .none kVBarred docBarred pmBarred anBarred (.ref cdaBarred) ctBarred ccBarred) ["self", "problem", "weights"] [] := .all fun us hl => match us, hl with | [_, _, _], _ => rfl
  obtain ⟨ccTop, cdaTop, kVTop, docTop, pmTop, anTop, ctTop, TTop⟩ := subTxt_of (P := L.prog) (mg := mg) (nm := "Top") (q := "Top.__init__") (st := tInit) (by decide +kernel) (c.ini _ (List.mem_cons_of_mem _ (List.mem_cons_of_mem _ List.mem_cons_self))) m_sinTop (fr 109 rfl) top
  have bTop : L2.Binds K (PySem.W.ksFn "__init__" "Top.__init__" (defArgs tInit) (defBody tInit) (defScope tInit) .none kVTop docTop pmTop anTop (.ref cdaTop) ctTop ccTop) ["self", "problem", "factors", "number", "values", "weights"] [] := .all fun us hl => match us, hl with | [_, _, _, _, _, _], _ => rfl
  obtain ⟨ccEndless, cdaEndless, kVEndless, docEndless, pmEndless, anEndless, ctEndless, TEndless⟩ := subTxt_of (P := L.prog) (mg := mg) (nm := "Endless") (q := "Endless.__init__") (st := eInit) (by decide +kernel) (c.ini _ (List.mem_cons_of_mem _ (List.mem_cons_of_mem _ (List.mem_cons_of_mem _ List.mem_cons_self)))) m_sinEndless (fr 109 rfl) top
  have bEndless : KBn K (PySem.W.ksFn "__init__" "Endless.__init__" (defArgs eInit) (defBody eInit) (defScope eInit) .none kVEndless docEndless pmEndless anEndless (.ref cdaEndless) ctEndless ccEndless) ["self", "problem", "factors", "values", "direction"] 1 ["values", "factors", "problem", "direction"] turn4 turn4 := ⟨fun s us ws _ l1 l2 => .of_eq (match us, ws, l1, l2 with | [_], [_, _, _, _], _, _ => rfl), vals_turn⟩
  have SSolvedSolved := subB_ok m_suSolvedSolved
  have SBarredBarred := subB_ok m_suBarredBarred
  have STopTop := subB_ok m_suTopTop
  have SSolvedTop := subB_ok m_suSolvedTop
  have SEndlessEndless := subB_ok m_suEndlessEndless
  have SSolvedEndless := subB_ok m_suSolvedEndless
  have f0 : Fun K "law" "law" sLaw (He.ga K "law") fd0 := fun_of F0
  refine ⟨fd0, [], spLaw K, (fun p hp => by cases hp), (fun p hp => by cases hp), (fun p hp => by cases hp), fun s v => b0 s [v] rfl, fun H a ns hl _ hT hS => ⟨a, ns, rfl, hS, hl, fun _ => rfl⟩, fun base _ _ TB => ?_⟩
  have GD := ok_draw (P := L.prog) (w := w) (K := K) (base := base) (fun_of F2) tN
  have GO := ok_of (P := L.prog) (w := w) (K := K) (base := base) (fun_of F3) tN (fun_of F2) (gl 2 rfl) b2
  have GLw := ok_low (P := L.prog) (w := w) (K := K) (base := base) (fun_of F5) (fr 97 rfl) (fr 105 rfl)
  have GWi := ok_wide (fun_of F6) GD (gl 2 rfl) F2.kp b2 GLw (gl 5 rfl) F5.kp b5
  have GPr := ok_pairL (P := L.prog) (w := w) (K := K) (base := base) (fun_of F7) (fr 101 rfl) (fr 97 rfl)
  have GTl := ok_textL (fun_of F8) (fr 101 rfl) (fr 110 rfl) GPr (gl 7 rfl) F7.kp b7
  have W : Fun K "_is_whole" "_is_whole" s__is_whole (He.ga K "_is_whole") _ := (fun_of F11)
  have GN := ok_number (P := L.prog) (w := w) (base := base) (fun_of F12) W tW (gl 11 rfl) b11
  have GRa := ok_isRat (P := L.prog) (w := w) (base := base) (fun_of F13) W tR (gl 11 rfl) b11
  have GC := ok_can (P := L.prog) (w := w) (base := base) (fun_of F14) W (fun_of F13) tR (gl 11 rfl) b11 (gl 13 rfl) b13
  have GRo := ok_ratioOf (P := L.prog) (w := w) (base := base) (fun_of F15) W (fun_of F13) tR (gl 11 rfl) b11 (gl 13 rfl) b13
  have GFi := ok_fig (P := L.prog) (w := w) (K := K) (base := base) (fun_of F16) (fr 110 rfl)
  have GRt := ok_rtext (fun_of F17) (fr 105 rfl) GRo (gl 15 rfl) F15.kp b15 GFi (gl 16 rfl) F16.kp b16
  have GF := ok_factors (fun_of F18) tQ GC (gl 14 rfl) F14.kp b14
  have GRs := ok_rats (fun_of F19) GRo (gl 15 rfl) F15.kp b15
  have GRow := ok_rowOf (fun_of F20) tQ GF (gl 18 rfl) F18.kp b18 GC (gl 14 rfl) F14.kp b14 GRs (gl 19 rfl) F19.kp b19 GRo (gl 15 rfl) F15.kp b15
  have GRows := ok_rowsOf (fun_of F21) (fr 108 rfl) GRow (gl 20 rfl) F20.kp b20
  have GI := ok_initP F22 tP GN (gl 12 rfl) F12.kp b12 GRows (gl 21 rfl) F21.kp b21
  have MI := (He.mkr_ok (d.fact 22 rfl))
  have GEq := ok_eqP (P := L.prog) (w := w) (base := base) (fun_of F23) tP tI (fr 101 rfl) (gl 24 rfl)
  have GCp := ok_copiedQ (P := L.prog) (w := w) (base := base) (fun_of F9) tC (gl 9 rfl) b9 2
  have GLi := ok_listedQ (P := L.prog) (w := w) (base := base) (n := 2) (fun_of F10) tC GCp (gl 9 rfl) F9.kp b9
  have GIA := ok_initA (P := L.prog) (w := w) (K := K) (mg := mg) (base := base) (fun_of F24)
  have RIA := VG.FnOk.toR GIA b24
  have GIS := ok_initS TSolved RIA GCp (gl 9 rfl) F9.kp b9
  have RIS := VG.FnOk.toR GIS bSolved
  have GIB := ok_initB TBarred RIA GCp (gl 9 rfl) F9.kp b9
  have GIT := ok_initT TTop RIS GCp (gl 9 rfl) F9.kp b9
  have GIE := ok_initE TEndless RIS GCp (gl 9 rfl) F9.kp b9
  have GPb := ok_prob (P := L.prog) (w := w) (K := K) (mg := mg) (base := base) (fun_of FP)
  obtain ⟨j01, j02, j03, j04, -⟩ := insB_ok m_insAnswer
  obtain ⟨u0, kc0⟩ := He.conB_ok m_conAnswer
  let k0 : Kls L.prog w K mg base := ⟨(He.ga K "Answer"), _, _, spToldA K, _, _, _, _, false, _, "open", u0, ⟨He.cls_ok (d.fact 33 rfl), He.noat_ok (d.fact 34 rfl), He.noat_ok (d.fact 35 rfl), He.noat_ok (d.fact 36 rfl), He.noat_ok (d.fact 37 rfl), He.noat_ok (d.fact 38 rfl), He.noat_ok (d.fact 39 rfl)⟩,
    ⟨(ok_toldA (P := L.prog) (w := w) (K := K) (mg := mg) (base := base) (fun_of F25)).mono (by decide), (He.meth_ok (d.fact 29 rfl)), b25⟩, GPb, pPP, bP, ⟨VG.FnOk.toR (ok_boolA (P := L.prog) (w := w) (K := K) (mg := mg) (base := base) (fun_of F26)) b26, (He.meth_ok (d.fact 30 rfl)).at_, (He.meth_ok (d.fact 30 rfl)).fn⟩,
    ⟨VG.FnOk.toR (ok_reprA (P := L.prog) (w := w) (K := K) (mg := mg) (base := base) (fun_of F27)) b27, (He.meth_ok (d.fact 31 rfl)).at_, (He.meth_ok (d.fact 31 rfl)).fn⟩, kc0, j01, j02, j03, j04⟩
  obtain ⟨j11, j12, j13, j14, -⟩ := insB_ok m_insSolved
  obtain ⟨u1, kc1⟩ := He.conB_ok m_conSolved
  let k1 : Kls L.prog w K mg base := ⟨(He.ga K "Solved"), _, _, spToldA K, _, _, _, _, true, _, "solved", u1, ⟨He.cls_ok (d.fact 44 rfl), He.noat_ok (d.fact 45 rfl), He.noat_ok (d.fact 46 rfl), He.noat_ok (d.fact 47 rfl), He.noat_ok (d.fact 48 rfl), He.noat_ok (d.fact 49 rfl), He.noat_ok (d.fact 50 rfl)⟩,
    ⟨(ok_toldA (P := L.prog) (w := w) (K := K) (mg := mg) (base := base) (fun_of F28)).mono (by decide), (He.meth_ok (d.fact 40 rfl)), b28⟩, GPb, proIB_ok m_proISolved pPP, bP, ⟨VG.FnOk.toR (ok_boolS (P := L.prog) (w := w) (K := K) (mg := mg) (base := base) (fun_of F29)) b29, (He.meth_ok (d.fact 41 rfl)).at_, (He.meth_ok (d.fact 41 rfl)).fn⟩,
    ⟨VG.FnOk.toR (ok_reprA (P := L.prog) (w := w) (K := K) (mg := mg) (base := base) (fun_of F30)) b30, (He.meth_ok (d.fact 42 rfl)).at_, (He.meth_ok (d.fact 42 rfl)).fn⟩, kc1, j11, j12, j13, j14⟩
  obtain ⟨j21, j22, j23, j24, -⟩ := insB_ok m_insBarred
  obtain ⟨u2, kc2⟩ := He.conB_ok m_conBarred
  let k2 : Kls L.prog w K mg base := ⟨(He.ga K "Barred"), _, _, spToldA K, _, _, _, _, false, _, "barred", u2, ⟨He.cls_ok (d.fact 56 rfl), He.noat_ok (d.fact 57 rfl), He.noat_ok (d.fact 58 rfl), He.noat_ok (d.fact 59 rfl), He.noat_ok (d.fact 60 rfl), He.noat_ok (d.fact 61 rfl), He.noat_ok (d.fact 62 rfl)⟩,
    ⟨(ok_toldA (P := L.prog) (w := w) (K := K) (mg := mg) (base := base) (fun_of F31)).mono (by decide), (He.meth_ok (d.fact 52 rfl)), b31⟩, GPb, proIB_ok m_proIBarred pPP, bP, ⟨VG.FnOk.toR (ok_boolA (P := L.prog) (w := w) (K := K) (mg := mg) (base := base) (fun_of F32)) b32, (He.meth_ok (d.fact 53 rfl)).at_, (He.meth_ok (d.fact 53 rfl)).fn⟩,
    ⟨VG.FnOk.toR (ok_reprA (P := L.prog) (w := w) (K := K) (mg := mg) (base := base) (fun_of F33)) b33, (He.meth_ok (d.fact 54 rfl)).at_, (He.meth_ok (d.fact 54 rfl)).fn⟩, kc2, j21, j22, j23, j24⟩
  obtain ⟨j31, j32, j33, j34, -⟩ := insB_ok m_insTop
  obtain ⟨u3, kc3⟩ := He.conB_ok m_conTop
  let k3 : Kls L.prog w K mg base := ⟨(He.ga K "Top"), _, _, spToldT K, _, _, _, _, true, _, "top", u3, ⟨He.cls_ok (d.fact 68 rfl), He.noat_ok (d.fact 69 rfl), He.noat_ok (d.fact 70 rfl), He.noat_ok (d.fact 71 rfl), He.noat_ok (d.fact 72 rfl), He.noat_ok (d.fact 73 rfl), He.noat_ok (d.fact 74 rfl)⟩,
    ⟨ok_toldT (fun_of F34) GRa (gl 13 rfl) F13.kp b13 GRt (gl 17 rfl) F17.kp b17, (He.meth_ok (d.fact 64 rfl)), b34⟩, GPb, proIB_ok m_proITop pPP, bP, ⟨VG.FnOk.toR (ok_boolS (P := L.prog) (w := w) (K := K) (mg := mg) (base := base) (fun_of F35)) b35, (He.meth_ok (d.fact 65 rfl)).at_, (He.meth_ok (d.fact 65 rfl)).fn⟩,
    ⟨VG.FnOk.toR (ok_reprA (P := L.prog) (w := w) (K := K) (mg := mg) (base := base) (fun_of F36)) b36, (He.meth_ok (d.fact 66 rfl)).at_, (He.meth_ok (d.fact 66 rfl)).fn⟩, kc3, j31, j32, j33, j34⟩
  obtain ⟨j41, j42, j43, j44, -⟩ := insB_ok m_insEndless
  obtain ⟨u4, kc4⟩ := He.conB_ok m_conEndless
  let k4 : Kls L.prog w K mg base := ⟨(He.ga K "Endless"), _, _, spToldA K, _, _, _, _, true, _, "endless", u4, ⟨He.cls_ok (d.fact 80 rfl), He.noat_ok (d.fact 81 rfl), He.noat_ok (d.fact 82 rfl), He.noat_ok (d.fact 83 rfl), He.noat_ok (d.fact 84 rfl), He.noat_ok (d.fact 85 rfl), He.noat_ok (d.fact 86 rfl)⟩,
    ⟨(ok_toldA (P := L.prog) (w := w) (K := K) (mg := mg) (base := base) (fun_of F37)).mono (by decide), (He.meth_ok (d.fact 76 rfl)), b37⟩, GPb, proIB_ok m_proIEndless pPP, bP, ⟨VG.FnOk.toR (ok_boolS (P := L.prog) (w := w) (K := K) (mg := mg) (base := base) (fun_of F38)) b38, (He.meth_ok (d.fact 77 rfl)).at_, (He.meth_ok (d.fact 77 rfl)).fn⟩,
    ⟨VG.FnOk.toR (ok_reprA (P := L.prog) (w := w) (K := K) (mg := mg) (base := base) (fun_of F39)) b39, (He.meth_ok (d.fact 78 rfl)).at_, (He.meth_ok (d.fact 78 rfl)).fn⟩, kc4, j41, j42, j43, j44⟩
  refine ok_law (CP := (He.ga K "Problem")) (gA := (He.ma K (He.ga K "Answer") "__init__")) (gS := (He.ma K (He.ga K "Solved") "__init__")) (k0 := k0) (k1 := k1) (k2 := k2) (k3 := k3) (k4 := k4) f0 ?_
  exact {
    src := ⟨_, _, ok_source (fun_of F1) tN, (gl 1 rfl), F1.kp, b1⟩
    draw := ⟨_, _, GD, (gl 2 rfl), F2.kp, b2⟩
    of_ := ⟨_, _, GO, (gl 3 rfl), F3.kp, b3⟩
    same := ⟨_, _, ok_same (fun_of F4) tN, (gl 4 rfl), F4.kp, b4⟩
    wide := ⟨_, _, GWi, (gl 6 rfl), F6.kp, b6⟩
    text := ⟨_, _, GTl, (gl 8 rfl), F8.kp, b8⟩
    initP := ⟨_, _, GI, MI, bI⟩
    eqP := ⟨_, VG.FnOk.toR GEq b23, (He.meth_ok (d.fact 23 rfl)).at_, (He.meth_ok (d.fact 23 rfl)).fn⟩
    clsP := tP
    insP := tI
    nfP := m_nfP
    i0 := ⟨_, _, GIA, (He.mkr_ok (d.fact 28 rfl)), b24⟩
    i1 := ⟨_, _, GIS, (He.mkr_ok (d.fact 51 rfl)), bSolved⟩
    i2 := ⟨_, _, GIB, (He.mkr_ok (d.fact 63 rfl)), bBarred⟩
    i3 := ⟨_, _, GIT, (He.mkr_ok (d.fact 75 rfl)), bTop⟩
    i4 := ⟨_, _, GIE, (He.mkr_ok (d.fact 87 rfl)), bEndless⟩
    s1 := SSolvedSolved
    s2 := SBarredBarred
    s3 := STopTop
    s3' := SSolvedTop
    s4 := SEndlessEndless
    s4' := SSolvedEndless
    numbers1 := ⟨_, _, ⟨ok_sNumbers (fun_of F41) GLi (gl 10 rfl) F10.kp b10, (He.meth_ok (d.fact 89 rfl)), b41⟩⟩
    numbers3 := ⟨_, _, ⟨ok_sNumbers (fun_of F42) GLi (gl 10 rfl) F10.kp b10, (He.meth_ok (d.fact 90 rfl)), b42⟩⟩
    numbers4 := ⟨_, _, ⟨ok_sNumbers (fun_of F43) GLi (gl 10 rfl) F10.kp b10, (He.meth_ok (d.fact 91 rfl)), b43⟩⟩
    weights2 := ⟨_, _, ⟨ok_bWeights (fun_of F44) GLi (gl 10 rfl) F10.kp b10, (He.meth_ok (d.fact 92 rfl)), b44⟩⟩
    weights3 := ⟨_, _, ⟨ok_tWeights (fun_of F46) GLi (gl 10 rfl) F10.kp b10, (He.meth_ok (d.fact 94 rfl)), b46⟩⟩
    factors3 := ⟨_, _, ⟨ok_tFactors (fun_of F45) GLi (gl 10 rfl) F10.kp b10, (He.meth_ok (d.fact 93 rfl)), b45⟩⟩
    factors4 := ⟨_, _, ⟨ok_eFactors (fun_of F47) GLi (gl 10 rfl) F10.kp b10, (He.meth_ok (d.fact 95 rfl)), b47⟩⟩
    direction4 := ⟨_, _, ⟨ok_eDirection (fun_of F48) GLi (gl 10 rfl) F10.kp b10, (He.meth_ok (d.fact 96 rfl)), b48⟩⟩
    holds0 := ⟨_, _, ⟨ok_holdsA (P := L.prog) (w := w) (K := K) (mg := mg) (base := base) (fun_of F40), (He.meth_ok (d.fact 88 rfl)), b40⟩⟩
    t0 := ⟨rfl, rfl, rfl⟩
    t1 := ⟨rfl, rfl, rfl⟩
    t2 := ⟨rfl, rfl, rfl⟩
    t3 := ⟨rfl, rfl, rfl⟩
    t4 := ⟨rfl, rfl, rfl⟩
    aA := all5 (of_decide_eq_true m_aAAnswer) (of_decide_eq_true m_aASolved) (of_decide_eq_true m_aABarred) (of_decide_eq_true m_aATop) (of_decide_eq_true m_aAEndless)
    aS := ⟨of_decide_eq_true m_aSAnswer, of_decide_eq_true m_aSSolved, of_decide_eq_true m_aSBarred, of_decide_eq_true m_aSTop, of_decide_eq_true m_aSEndless⟩
    aT := of_decide_eq_true m_aT
    r0 := cvalS_ok m_cvAnswer
    r2 := cvalS_ok m_cvBarred
    r4 := cvalS_ok m_cvEndless
    prob := (gl 24 rfl)
    answer := (gl 32 rfl)
    solved := (gl 43 rfl)
    barred := (gl 55 rfl)
    top_ := (gl 67 rfl)
    endless := (gl 79 rfl)
    isi := (fr 101 rfl)
    bool_ := (fr 102 rfl)
    rep := (fr 100 rfl)
    rng := (fr 103 rfl) }
end Lw

set_option maxRecDepth 100000
set_option maxHeartbeats 0
open PySem PySem.W PySem.Calls PyProof.Rows
theorem PySem.Challenge.cw_missingmiles_k12_answers_told_holds : PySem.Challenge.rw_missingmiles_k12_answers_told.Holds := by
  w_on; o_law
  refine HandSHeadRun.head_imp (r := OpenLaw.row PySem.Challenge.rw_missingmiles_k12_answers_told) (q := view (OpenLaw.row PySem.Challenge.rw_missingmiles_k12_answers_told).prog [0, 59]) (H := Lw.hk) (ob := Lw.ob) (M := 8000) (loose := Lw.loose)
    (d := HandSHeadRun.topDef (OpenLaw.row PySem.Challenge.rw_missingmiles_k12_answers_told).prog 59) (kwd := []) Lw.ob_eq Lw.run
    (by kernel_rfl) (by kernel_rfl) (by kernel_rfl) (by rfl) (by first | assumption | decide +kernel) (by decide +kernel) ⟨rfl, rfl, rfl, rfl, rfl, by decide +kernel⟩ ?hw ?hc
  case hw => w_witness2
  case hc =>
    refine VG.walkGE (l := PySem.Challenge.rw_missingmiles_k12_answers_told) (n := 63) (k := 10) (x := "_law_script") (CX := fun _ => L2.CX0) rfl (by decide) (by kernel_rfl) ⟨rfl, by decide, by decide⟩ ?F (fun _ _ _ _ _ z => z)
    intro w mg fa h Y G hmg0
    obtain ⟨K, KX, c⟩ := Y
    have e : (HandSHeadRun.topDef (OpenLaw.row PySem.Challenge.rw_missingmiles_k12_answers_told).prog 59).name = ("law" : PySem.Str) := by kernel_rfl
    rw [e] at hmg0
    exact ⟨K, KX, Lw.facts KX G hmg0 c⟩

