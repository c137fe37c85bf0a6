import PyProof.Rows.All
import Wide.All
import OpenK.AllK
import Wide.FinOn
import PyProof.ReprBulk
import HandS.Base
import HandS.Call
import HandS.List
import HandS.Ends
import HandS.Words
import HandS.Lambda
import HandS.EndBits
import HandS.EndTab
import HandS.Defaults
import HandS.Deep
import HandS.TupAny
import HandS.Exc
import HandS.ExcInit
import HandS.WordsExc
import HandS.TryOnly
import KE.KExcSuper
import KE.KExcMake
import HandS.ClsMeth
import KE.KTypeName
import KE.KTryMore
import HandS.HotCalls
import HandS.ExcField
import HandS.ForMost
import HandS.Walk
import HandS.IsInst
import HandS.Star
import HandS.HeadHook4
import HandS.SlotsOwn
import PyProof.InstNe
import OpenK.KOps
import HandS.Property
import HandS.Comp
import HandS.FStr
import HandS.HeadNt
import KE.KOpsOwn
import HandS.HeadHook2
import KE.KExcIs
import HandS.MakeKwOnly
import HandS.Wide
import HandS.Codes
import HandS.StrMore
import PySem.Challenge.RW_missingmiles_k27_sizes_of_scripts_refuse
import HandS.Head0
import HandS.Head1
import HandS.Head2
import HandS.Head3
import HandS.HeadHook3
import HandS.Zip
import KE.GoesZip
import KE.GoesMore
import KE.GoesEnum
import HandS.Gcd
import HandS.Style
import HandS.DictComp
import OpenK.KMeth
import HandS.Conv
import PyProof.ListStr
import KE.KUnpackStar
import HandS.More
import PyProof.MeetsIn
import HandS.WordsDict
import HandS.Flow
import KE.GoesEnumKw
import PyProof.Rows.CallKwBuiltin
import HandS.SortKw
import HandS.SortRule
import KE.KSortKey
import KE.SortKeyed
import HandS.ExcValue
import HandS.TupLe
import PyProof.Rows.SortStr
import HandS.TupMul
set_option Elab.async false
set_option maxRecDepth 100000
/-! Data that is small enough to be shown; calls made where no repr is under way; the law's end for such calls. -/
namespace VG
open PySem PySem.Spec PyProof.Rows L2

/-! ### small data -/
mutual
def sm : PyData → Bool
  | .none => true
  | .bool _ => true
  | .int i => decide (i.natAbs < 10 ^ 90)
  | .str x => PyData.strOk x
  | .list xs => smAll xs
  | .tuple xs => smAll xs
  | .dict _ => false
def smAll : List PyData → Bool
  | [] => true
  | x :: xs => sm x && smAll xs
end
theorem pow90 : (10 : Nat) ^ 90 < 2 ^ 1900 := by decide +kernel
theorem log_of {n : Nat} (h : n < 10 ^ 90) : n.log2 < 1920 := by
  by_cases z : n = 0
  · subst z
    decide
  · have q : n.log2 < 1900 := (Nat.log2_lt z).mpr (Nat.lt_trans h pow90)
    exact Nat.lt_of_lt_of_le q (by decide)
theorem signs_small {x : Str} (h : PyData.strOk x = true) : ∀ c ∈ x.cps.toList, c < 16 ^ 8 := fun c hc => by
  have q := Array.all_eq_true_iff_forall_mem.mp h c (Array.mem_toList_iff.mp hc)
  have q2 : c < 1114112 := of_decide_eq_true q
  exact Nat.lt_trans q2 (by decide)
theorem int_len {i : Int} (h : i.natAbs < 10 ^ 90) : (PyData.int i).shown.length ≤ 100 := by
  rw [PyData.shown_int, _root_.PySem.ofString_length]
  exact Nat.le_trans (int_text_length_le10 (k := 90) (by decide) h) (by decide)
mutual
theorem sm_all : ∀ d : PyData, sm d = true → (d.showable = true ∧ d.hasDict = false) ∧ d.leavesShort 100 = true ∧ d.canLay0 = true
  | .none, _ => ⟨⟨rfl, rfl⟩, rfl, rfl⟩
  | .bool _, _ => ⟨⟨rfl, rfl⟩, rfl, rfl⟩
  | .int i, h => by
    have q : i.natAbs < 10 ^ 90 := of_decide_eq_true (by simpa only [sm] using h)
    exact ⟨⟨by simp only [PyData.showable]; exact decide_eq_true (log_of q), by simp only [PyData.hasDict]⟩, by simp only [PyData.leavesShort]; exact decide_eq_true (int_len q), by simp only [PyData.canLay0]⟩
  | .str x, h => by
    have q : PyData.strOk x = true := by simpa only [sm] using h
    refine ⟨⟨by simp only [PyData.showable], by simp only [PyData.hasDict]⟩, ?_, by simp only [PyData.canLay0]; exact q⟩
    simp only [PyData.leavesShort]
    exact List.all_eq_true.mpr fun c hc => decide_eq_true (signs_small q c hc)
  | .list xs, h => by
    obtain ⟨⟨a, b⟩, c, e⟩ := sm_alls xs (by simpa only [sm] using h)
    exact ⟨⟨by simp only [PyData.showable]; exact a, by simp only [PyData.hasDict]; exact b⟩, by simp only [PyData.leavesShort]; exact c, by simp only [PyData.canLay0]; exact e⟩
  | .tuple xs, h => by
    obtain ⟨⟨a, b⟩, c, e⟩ := sm_alls xs (by simpa only [sm] using h)
    exact ⟨⟨by simp only [PyData.showable]; exact a, by simp only [PyData.hasDict]; exact b⟩, by simp only [PyData.leavesShort]; exact c, by simp only [PyData.canLay0]; exact e⟩
  | .dict _, h => by simp [sm] at h
theorem sm_alls : ∀ xs : List PyData, smAll xs = true → (PyData.showableAll xs = true ∧ PyData.hasDictAll xs = false) ∧ PyData.leavesShortAll 100 xs = true ∧ PyData.canLayAll0 xs = true
  | [], _ => ⟨⟨rfl, rfl⟩, rfl, rfl⟩
  | x :: xs, h => by
    have h' : sm x = true ∧ smAll xs = true := by simpa only [smAll, Bool.and_eq_true] using h
    obtain ⟨⟨a, b⟩, c, e⟩ := sm_all x h'.1
    obtain ⟨⟨a', b'⟩, c', e'⟩ := sm_alls xs h'.2
    simp only [PyData.showableAll, PyData.hasDictAll, PyData.leavesShortAll, PyData.canLayAll0, a, b, c, e, a', b', c', e', Bool.and_self, Bool.or_self, and_self]
end
/-- d may be shown, and compared: its leaves are small, it is neither deep nor long -/
structure Sm (d : PyData) : Prop where
  sm : sm d = true
  dp : d.depth ≤ 40
  bk : d.bulk ≤ 100000
theorem Sm.fits {d : PyData} (h : Sm d) : d.shown.length ≤ sizeLine := by
  have q := PyData.shown_le_bulk 100 (by decide) d (sm_all d h.sm).2.1
  have b := h.bk
  have e : (100 + 2) * d.bulk ≤ 102 * 100000 := Nat.mul_le_mul (by decide) b
  rw [sizeLine_eq]
  omega
theorem Sm.shaped {d : PyData} (h : Sm d) : SeqAt.shaped d = true := by
  have e := (sm_all d h.sm).2.2
  have f : d.depth ≤ 64 := Nat.le_trans h.dp (by decide)
  show (d.canLay0 && decide (d.depth ≤ 64)) = true
  rw [e, decide_eq_true f]
  rfl

/-! ### repr of data, where no repr is under way -/
def rRepr (K : PySem.W.Frag) : List V → Hp → VK → Prop := fun xs H Q => ∃ x d, xs = [x] ∧ Dp K H x d ∧ Sm d ∧ Q (.str d.shown) H
section
variable {X : Cx}
theorem call_repr (hG : X.A.guards = some []) (hu : X.A.units + 64 < cLine) : CallR X (.builtin "repr") (rRepr X.K) := by
  intro pins s σ H xs us Q I r h
  obtain ⟨x, d, rfl, hd, hS, q⟩ := h
  obtain ⟨u, rfl, r1⟩ := vals1 r
  have fit := hS.fits
  obtain ⟨⟨hs, hn⟩, _, _⟩ := sm_all d hS.sm
  obtain ⟨as, rd⟩ := Dp.reads I d x u hd r1
  cases hd with
  | non =>
    cases r1
    refine PySem.P.repr_of_none ⟨.str _, H, I.tok _, ⟨_, rfl⟩, ?_⟩
    rw [PyData.shown_none] at q
    exact q
  | bl b =>
    cases r1
    refine PySem.P.repr_of_bool ⟨.str _, H, I.tok _, ⟨_, rfl⟩, ?_⟩
    rw [PyData.shown_bool] at q
    cases b <;> exact q
  | int i =>
    obtain ⟨t, rfl⟩ := r1
    have z : i.natAbs < 10 ^ 90 := of_decide_eq_true (by simpa only [VG.sm] using hS.sm)
    exact PySem.P.repr_of_int (log_of z) ⟨.str _, H, I.tok _, ⟨_, rfl⟩, by rw [PyData.shown_int] at q; exact q⟩
  | str y =>
    obtain ⟨t, rfl⟩ := r1
    rw [PyData.shown_str] at q fit
    exact PySem.P.repr_of_str ⟨.str _, H, I.tok _, ⟨_, rfl⟩, q⟩ fit
  | lst hl ha =>
    cases r1
    exact repr_of_reads' rd hs (PyData.noDict_hsm hn) hG (by have := hS.dp; omega) (fun _ _ e => e) (fun h' u tk hk => ⟨.str _, H, I.kept hk, ⟨_, rfl⟩, q⟩) fit
  | tup hl ha =>
    cases r1
    exact repr_of_reads' rd hs (PyData.noDict_hsm hn) hG (by have := hS.dp; omega) (fun _ _ e => e) (fun h' u tk hk => ⟨.str _, H, I.kept hk, ⟨_, rfl⟩, q⟩) fit
end

/-! ### defs that are called where no repr is under way -/
structure FnG (P : Program) (w : World) (K : PySem.W.Frag) (mg : Str → Option Value) (base : Heap) (CX : CXT) (k : Nat) (f : Addr) (fd : FuncData) (ps : List Str) (sp : Sp) : Prop where
  many : ∀ vs H Q E, sp vs H Q E → vs.length = ps.length
  runs : ∀ (A : Around) (outer : List Env) (s : Shared) (H : Hp) (args : Args) (us : List Value) (vs : List V) (Q : VK) (E : XK), A.guards = some [] → Room k A → Env0 P w K mg base A outer s H →
    BindsTo s fd args (ps.zip us) → Vals vs us → sp vs H Q E → codeAny (model P w) A (.call (.ref f) args) (CR CX outer P w H s Q E) s
section
variable {P : Program} {w : World} {K : PySem.W.Frag} {mg : Str → Option Value} {base : Heap}
theorem okG {x qual : Str} {st : Stmt} {f : Addr} {fd : FuncData} {N ps : List Str} {k : Nat} {sp : Sp} (F : Fun K x qual st f fd) (S : FnScope N ps (defScope st)) (many : ∀ vs H Q E, sp vs H Q E → vs.length = ps.length)
    (body : ∀ (cdv : Value) (A : Around) (outer : List Env) (s : Shared) (H : Hp) (vs : List V) (Q : VK) (E : XK), A.guards = some [] → Room k (A.deeper (envOfC qual (defScope st) s.heap.objs.size f cdv)) → sp vs H Q E →
      ∃ t, PSs (cxOf CX0 P w K mg base N qual (defScope st) f cdv A outer s H E).nox (defBody st) t ∧
        t { nx := fun _ H' => Q .non H', rt := Q } (L2.start N vs) H) : FnG P w K mg base CX0 (k + 1) f fd ps sp := by
  obtain ⟨oc, od, kV, doc, pm, an, cdv, ct, osl, rfl, lk, hcd⟩ := F.ex
  refine ⟨many, fun A outer s H args us vs Q E hG hr e0 hb r q => ?_⟩
  refine LamX.run_ofS lk hcd S hr e0 hb r (many _ _ _ _ q) fun hr' => ?_
  obtain ⟨t, h1, h2⟩ := body cdv A outer s H vs Q E hG hr' q
  exact ⟨t, h1.nox, h2⟩
end
section
variable {X : Cx} {CX : CXT} {k : Nat} {f : Addr} {fd : FuncData} {ps : List Str} {sp : Sp} {dvs : List V} {ds : List Value} {E : XK} {x : Str} {p pos : Pos} {e : Expr} {es : List Expr} {t : TA}
theorem pe_callG (F : FnG X.prog X.w X.K X.mg X.base CX k f fd ps sp) (hG : X.A.guards = some []) (hr : Room k X.A) (hg : Gl X x) (hm : X.mg x = some (.ref f)) (hk : PySem.W.keepIn X.K (.ref f) = true) (hb : Binds X.K fd ps ds) (hd : Vals dvs ds)
    (hx : Passes CX X E) (ha : PA X (e :: es) t) (n1 : (x == ("__debug__" : Str)) = false := by decide) (n2 : starEach (e :: es) X.env = (false, eval e X.env) :: starEach es X.env := by rfl)
    (n3 : (backTo pos (starEach es X.env)).any (·.1) = false := by rfl) : PE X (.Call (.Name x p) (e :: es) [] pos) (tCall sp dvs E t) := by
  refine ⟨fun pins s σ H Q I q0 => wpAny_Call_Name_kw (ld_glob I hg hm (PySem.W.callWith_K (h₀ := X.base) I.ok.mod.kin hk (thn (ha.run pos pins s σ H _ I q0) fun us s1 ⟨vs, H1, I1, r, q⟩ => ⟨I1.kIn, ?_⟩) n2 n3) n1)⟩
  have r2 : Vals (vs ++ dvs) (us ++ ds) := r.append hd
  have l2 : (us ++ ds).length = ps.length := r2.length.symm.trans (F.many _ _ _ _ q)
  refine wpAny_call (codeAny_mono (F.runs X.A X.stack s1 H1 ⟨us, []⟩ (us ++ ds) (vs ++ dvs) Q E hG hr I1.env0 (hb s1 us I1.kIn l2) r2 q) fun res s' z => ?_)
  match res, z with
  | .error err, z => exact hx pins σ H1 s1 err s' I1 z
  | .ok (.ret u), z => exact I1.after z
  | .ok .next, z => exact z.elim
  | .ok .brk, z => exact z.elim
  | .ok .cont, z => exact z.elim
end
end VG

set_option maxRecDepth 100000
/-! The law's end where the law's promise asks that no repr is under way. -/
namespace VG
open PySem PySem.Spec PyProof.Rows L2 LamX

def tabObj : Obj := { cls := .none, data := .fields #[] }
def scriptObj (vs : List Value) : Obj := { cls := .type "list", data := .seq vs.toArray }
/-- what is tracked where the law is called: the tables, and the script where sc says so -/
def laidAt (cs : List (Addr × Addr)) (a : Addr) (vs : List Value) (ns : List Int) (sc : Bool) : Hp := fun b =>
  if b ∈ cs.map (·.2) then some (.tbl #[]) else if sc = true ∧ b = a then some (.frz (scriptObj vs) (.lst (ns.map V.int))) else none
theorem laid_tab {cs : List (Addr × Addr)} {a : Addr} {vs : List Value} {ns : List Int} {sc : Bool} {b : Addr} (h : b ∈ cs.map (·.2)) : laidAt cs a vs ns sc b = some (.tbl #[]) := if_pos h
theorem laid_script {cs : List (Addr × Addr)} {a : Addr} {vs : List Value} {ns : List Int} (h : a ∉ cs.map (·.2)) : laidAt cs a vs ns true a = some (.frz (scriptObj vs) (.lst (ns.map V.int))) := by
  unfold laidAt
  rw [if_neg h, if_pos ⟨rfl, rfl⟩]
theorem laid_cases {cs : List (Addr × Addr)} {a : Addr} {vs : List Value} {ns : List Int} {sc : Bool} {b : Addr} {u : HO} (h : laidAt cs a vs ns sc b = some u) :
    (b ∈ cs.map (·.2) ∧ u = .tbl #[]) ∨ (sc = true ∧ b = a ∧ u = .frz (scriptObj vs) (.lst (ns.map V.int))) := by
  unfold laidAt at h
  by_cases h1 : b ∈ cs.map (·.2)
  · rw [if_pos h1] at h
    exact .inl ⟨h1, (Option.some.inj h).symm⟩
  · rw [if_neg h1] at h
    by_cases h2 : sc = true ∧ b = a
    · rw [if_pos h2] at h
      exact .inr ⟨h2.1, h2.2, (Option.some.inj h).symm⟩
    · rw [if_neg h2] at h
      cases h

theorem law_runG {P : Program} {w : World} {K : PySem.W.Frag} {mg mb : Str → Option Value} {CX : CXT} {k : Nat} {fa a : Addr} {cs : List (Addr × Addr)} {fd : FuncData} {x : Str} {sp : Sp} {s₁ : Shared} {vs : List Value} {ns : List Int}
    (KX : K.In s₁.heap) (hns : s₁.heap.Ns mainGlobals mg) (hb : s₁.heap.Ns builtinsNs mb) (hbb : ∀ x : Str, x ≠ "__name__" → mb x = bootBuiltins x) (hlim : s₁.heap.NoLimit)
    (hgen : s₁.gens = #[]) (hT : ∀ p ∈ cs, s₁.heap.get? p.2 = some tabObj) (nT : ∀ p ∈ cs, K.lookup p.2 = none) (C : ∀ p ∈ cs, PySem.W.CodeHd s₁.heap p.1 p.2)
    (hbm : ∃ (bm : Addr) (ob : Obj), mg "__builtins__" = some (.ref bm) ∧ bm ≠ builtinsNs ∧
      s₁.heap.get? bm = some ob ∧ ob.cls = .type "module" ∧ ob.dict = some builtinsNs ∧ ob.data = .plain)
    (ha : s₁.heap.get? a = some (scriptObj vs)) (hi : IntsAre vs ns) (hl : ns.length ≤ sizeLine) (hr : Room k callerA)
    (F : ∀ base : Heap, K.In base → base.Ns mainGlobals mg → (∀ p ∈ cs, TabB base mg p.1 p.2) → FnG P w K mg base CX k fa fd [x] sp)
    (bind1 : ∀ (s : Shared) (u : Value), BindsTo s fd ⟨[u], []⟩ [(x, u)])
    (kept : ∀ H : Hp, (∀ p ∈ cs, H p.2 = some (.tbl #[])) → SqL K H a (ns.map V.int) → sp [.ref a] H (fun v _ => v = .bl true) fun _ _ _ => False)
    (noX : ∀ H e s', CX [] H s₁ (fun _ _ _ => False) e s' → False) :
    codeAny (model P w) callerA (.call (.ref fa) ⟨[.ref a], []⟩)
      (fun r s' => r = .ok (.ret (.bool true)) ∧ OldK s₁.heap s'.heap ∧ s'.os = s₁.os ∧ AllBare s'.gens) s₁ := by
  have rv : Vals (ns.map V.int) vs := vals_ints hi
  have tabOf : ∀ b, b ∈ cs.map (·.2) → ∃ p ∈ cs, p.2 = b := fun b z => List.mem_map.mp z
  have inTab : ∀ p ∈ cs, p.2 ∈ cs.map (·.2) := fun p hp => List.mem_map.mpr ⟨p, hp, rfl⟩
  have atTab : ∀ b, b ∈ cs.map (·.2) → s₁.heap.get? b = some tabObj := fun b z => by
    obtain ⟨p, hp, rfl⟩ := tabOf b z
    exact hT p hp
  have aNo : a ∉ cs.map (·.2) := fun z => by
    have q := ha.symm.trans (atTab a z)
    have q2 : Data.seq vs.toArray _ = Data.fields #[] := congrArg Obj.data (Option.some.inj q)
    cases q2
  -- sc: is the script tracked (else it is one of the module's own objects)
  obtain ⟨sc, hsc, hseq⟩ : ∃ sc : Bool, (sc = true → K.lookup a = none) ∧ SqL K (laidAt cs a vs ns sc) a (ns.map V.int) := by
    cases hk : K.lookup a with
    | none => exact ⟨true, fun _ => rfl, .inl (.inr ⟨_, laid_script aNo⟩)⟩
    | some o =>
      have q := ha.symm.trans (KX a o hk)
      cases q
      refine ⟨false, fun z => (nomatch z), .inr ⟨_, vs.toArray, _, hk, rfl, rfl, rfl, ?_, by simpa using rv⟩⟩
      rw [List.size_toArray]
      exact hi.length ▸ hl
  generalize hH : laidAt cs a vs ns sc = H at hseq
  have tabH : ∀ p ∈ cs, H p.2 = some (.tbl #[]) := fun p hp => by
    rw [← hH]
    exact laid_tab (inTab p hp)
  have casesH : ∀ {b u}, H b = some u → (b ∈ cs.map (·.2) ∧ u = .tbl #[]) ∨ (sc = true ∧ b = a ∧ u = .frz (scriptObj vs) (.lst (ns.map V.int))) := fun {b u} q => by
    rw [← hH] at q
    exact laid_cases q
  have hok : HOk P w H s₁.heap := fun b u q => by
    rcases casesH q with ⟨z, rfl⟩ | ⟨_, rfl, rfl⟩
    · exact atTab b z
    · exact ⟨ha, by rw [List.length_map]; exact hl, vs, _, rv, ha⟩
  -- an object of another data is not tracked
  have other : ∀ {b : Addr} {o : Obj}, s₁.heap.get? b = some o → o.data ≠ tabObj.data → o.data ≠ (scriptObj vs).data → H b = none := fun {b o} e n1 n2 => by
    cases q : H b with
    | none => rfl
    | some u =>
      rcases casesH q with ⟨z, _⟩ | ⟨_, z, _⟩
      · exact (n1 (congrArg Obj.data (Option.some.inj (e.symm.trans (atTab b z))))).elim
      · exact (n2 (congrArg Obj.data (Option.some.inj (e.symm.trans (z ▸ ha))))).elim
  have keeps : ∀ {b : Addr} {o : Obj}, s₁.heap.get? b = some o → o.data ≠ tabObj.data → o.data ≠ (scriptObj vs).data → (hidT s₁.heap H).get? b = some o := fun e n1 n2 => hidT_get e (other e n1 n2)
  have nsK : ∀ {b : Addr} {m : Str → Option Value}, s₁.heap.Ns b m → (hidT s₁.heap H).Ns b m := fun ⟨o, es, ep, e, d, r⟩ =>
    ⟨o, es, ep, keeps e (fun z => by rw [d] at z; cases z) (fun z => by rw [d] at z; cases z), d, r⟩
  have hKb : K.In (hidT s₁.heap H) := fun b o e => hidT_get (KX b o e) (by
    cases q : H b with
    | none => rfl
    | some u =>
      rcases casesH q with ⟨z, _⟩ | ⟨z1, z, _⟩
      · obtain ⟨p, hp, rfl⟩ := tabOf b z
        rw [nT p hp] at e
        cases e
      · rw [z, hsc z1] at e
        cases e)
  have hM : L2.Mod K mg (hidT s₁.heap H) := ⟨hKb, nsK hns, ⟨mb, nsK hb, hbb⟩, let ⟨mc, h1, h2⟩ := hlim; ⟨mc, nsK h1, h2⟩⟩
  have TB : ∀ p ∈ cs, TabB (hidT s₁.heap H) mg p.1 p.2 := fun p hp => by
    refine ⟨?_, ?_, fun z => ?_⟩
    · obtain ⟨o, us, file, tf, flags, tg, inF, text, tt, e1, r1, r2, r3, r4, r5, r6, r7, r8, hne⟩ := C p hp
      refine ⟨o, us, file, tf, flags, tg, inF, text, tt, keeps e1 (fun z => ?_) (fun z => ?_), r1, r2, r3, r4, r5, r6, r7, r8, hne⟩
      · have z2 := r2.symm.trans z
        cases z2
        simp at r3
      · have z2 := r2.symm.trans z
        cases z2
    · obtain ⟨bm, ob, b1, b2, b3, b4, b5, b6⟩ := hbm
      refine ⟨bm, ob, b1, b2, fun q => ?_, fun q => ?_, keeps b3 (fun z => ?_) (fun z => ?_), b4, b5, b6⟩
      · obtain ⟨o, es, ep, e, hd, _⟩ := hns
        have z := Option.some.inj ((q ▸ b3).symm.trans e)
        rw [← z, b6] at hd
        cases hd
      · have z := Option.some.inj ((q ▸ b3).symm.trans (hT p hp))
        rw [z] at b6
        cases b6
      · have z2 := b6.symm.trans z
        cases z2
      · have z2 := b6.symm.trans z
        cases z2
    · obtain ⟨o, es, ep, e, hd, _⟩ := hns
      have z2 := Option.some.inj ((z ▸ e).symm.trans (hT p hp))
      rw [z2] at hd
      cases hd
  have e0 : Env0 P w K mg (hidT s₁.heap H) callerA [] s₁ H :=
    ⟨rfl, hM, fun b o e => of_hidT e, Nat.le_of_eq (hidT_size _ _), trivial, fun b z => absurd (show b ∈ ([] : List Addr) from z) (by simp), hok, .of_eq hgen⟩
  refine codeAny_mono ((F _ hKb (nsK hns) TB).runs callerA [] s₁ H ⟨[.ref a], []⟩ [.ref a] [.ref a] _ _ rfl hr e0 (bind1 s₁ (.ref a)) (.cons rfl .nil) (kept H tabH hseq)) fun r s' z => ?_
  match r, z with
  | .error e, z => exact (noX H e s' z).elim
  | .ok .next, z => exact z.elim
  | .ok .brk, z => exact z.elim
  | .ok .cont, z => exact z.elim
  | .ok (.ret u), z =>
    obtain ⟨v, H', os, bare, un, hok', r', q⟩ := z
    have q1 : v = .bl true := q
    subst q1
    obtain rfl : u = Value.bool true := r'
    -- all but the tables is as it was
    have old : ∀ b o, b ∉ cs.map (·.2) → s₁.heap.get? b = some o → s'.heap.get? b = some o := fun b o nb e => by
      cases q : H b with
      | none => exact un.keep b o e q (fun z => absurd (show b ∈ ([] : List Addr) from z) (by simp)) (by simp)
      | some u =>
        rcases casesH q with ⟨z, _⟩ | ⟨_, rfl, rfl⟩
        · exact absurd z nb
        · obtain ⟨e2, _⟩ := hok' b _ (un.frzs b _ _ q)
          rw [ha] at e
          rw [← e]
          exact e2
    have grew : ∀ p ∈ cs, ∃ more : Array Value, s'.heap.get? p.2 = some { cls := .none, data := .fields more } := fun p hp => by
      obtain ⟨more, z⟩ := un.tbls p.2 #[] (tabH p hp)
      exact ⟨_, hok' p.2 _ z⟩
    refine ⟨rfl, ⟨fun b o e => ?_, fun b o e => ?_⟩, os, bare⟩
    · by_cases z : b ∈ cs.map (·.2)
      · obtain ⟨p, hp, rfl⟩ := tabOf b z
        obtain ⟨more, hm⟩ := grew p hp
        have e2 := Option.some.inj (e.symm.trans (hT p hp))
        rw [e2]
        exact .inr (.inl ⟨((C p hp).tab (hT p hp)).isCodeTable, rfl, #[], more, rfl, by rw [Array.empty_append]; exact hm⟩)
      · exact .inl (old b o z e)
    · by_cases z : b ∈ cs.map (·.2)
      · obtain ⟨p, hp, rfl⟩ := tabOf b z
        obtain ⟨more, hm⟩ := grew p hp
        exact ⟨_, hm⟩
      · exact ⟨o, old b o z e⟩

/-- what is known of the law's promise at the head's heap h -/
def LawG (l : PySem.W.OpenLaw) (w : World) (K : PySem.W.Frag) (CX : CXT) (k n : Nat) (x : Str) (mg : Str → Option Value) (fa : Addr) (h : Heap) : Prop :=
  ∃ (fd : FuncData) (cs : List (Addr × Addr)) (sp : Sp), (∀ p ∈ cs, h.get? p.2 = some tabObj) ∧ (∀ p ∈ cs, K.lookup p.2 = none) ∧ (∀ p ∈ cs, PySem.W.CodeHd h p.1 p.2) ∧
    (∀ (s : Shared) (u : Value), BindsTo s fd ⟨[u], []⟩ [(x, u)]) ∧
    (∀ (H : Hp) (a : Addr) (ns : List Int), ns.length ≤ n → (∀ z ∈ ns, Builtin.Int.intBits z ≤ 1048576) → (∀ p ∈ cs, H p.2 = some (.tbl #[])) → SqL K H a (ns.map V.int) →
      sp [.ref a] H (fun v _ => v = .bl true) fun _ _ _ => False) ∧
    ∀ base : Heap, K.In base → base.Ns mainGlobals mg → (∀ p ∈ cs, TabB base mg p.1 p.2) → FnG l.prog w K mg base CX k fa fd [x] sp
theorem walkG {l : PySem.W.OpenLaw} {n k : Nat} {q : Program} {loose : List Str} {XP : (Str → Option Value) → Heap → Prop} {YP : World → Heap → Prop} {d : DefRec} {K : Params → PySem.W.Frag} {CX : World → CXT} {x : Str}
    (hn : l.most = some n) (hn2 : n ≤ sizeLine) (hdf : d.params.defaults = []) (hr : Room k callerA)
    (hY : ∀ (w : World) (h : Heap), YP w h → (K w.params).In h)
    (F : ∀ (w : World) (mg : Str → Option Value) (fa : Addr) (h : Heap), YP w h → (K w.params).In h → h.Ns mainGlobals mg → mg d.name = some (.ref fa) →
      LawG l w (K w.params) (CX w) k n x mg fa h)
    (noX : ∀ (w : World) (H : Hp) (s : Shared) (e : Value) (s' : Shared), CX w [] H s (fun _ _ _ => False) e s' → False) :
    PySem.W.WalkO q loose XP YP l.row.toRowW d [] (fun f vs => PySem.call f vs) :=
  Att.attach_callB hn hdf fun w s₀ s₁ mg mb fa o pm cd doc a vs ns G Y ho hd hcd hmg hobj hints hlen hbits hg => by
    obtain ⟨fd, cs, sp, hT, nT, C, hb, hsp, hF⟩ := F w mg fa _ Y (hY w _ Y) G.T.g hmg
    exact law_runG (hY w _ Y) G.T.g G.T.b G.T.builtins G.T.nolimit hg hT nT C G.T.bmain hobj hints (Nat.le_trans hlen hn2) hr hF hb (fun H hH hS => hsp H a ns hlen hbits hH hS) fun H e s' => noX w H s₁ e s'
theorem walkGE {l : PySem.W.OpenLaw} {n k : Nat} {q : Program} {loose : List Str} {XP : (Str → Option Value) → Heap → Prop} {YP : World → Heap → Prop} {d : DefRec} {CX : World → CXT} {x : Str}
    (hn : l.most = some n) (hn2 : n ≤ sizeLine) (hdf : d.params.defaults = []) (hr : Room k callerA)
    (F : ∀ (w : World) (mg : Str → Option Value) (fa : Addr) (h : Heap), YP w h → h.Ns mainGlobals mg → mg d.name = some (.ref fa) →
      ∃ K : PySem.W.Frag, K.In h ∧ LawG l w K (CX w) k n x mg fa h)
    (noX : ∀ (w : World) (H : Hp) (s : Shared) (e : Value) (s' : Shared), CX w [] H s (fun _ _ _ => False) e s' → False) :
    PySem.W.WalkO q loose XP YP l.row.toRowW d [] (fun f vs => PySem.call f vs) :=
  Att.attach_callB hn hdf fun w s₀ s₁ mg mb fa o pm cd doc a vs ns G Y ho hd hcd hmg hobj hints hlen hbits hg => by
    obtain ⟨K, KX, fd, cs, sp, hT, nT, C, hb, hsp, hF⟩ := F w mg fa _ Y G.T.g hmg
    exact law_runG KX G.T.g G.T.b G.T.builtins G.T.nolimit hg hT nT C G.T.bmain hobj hints (Nat.le_trans hlen hn2) hr hF hb (fun H hH hS => hsp H a ns hlen hbits hH hS) fun H e s' => noX w H s₁ e s'
end VG

set_option maxRecDepth 100000
/-! Calls by keywords alone; x in a tuple of data; data in a heap that has grown. -/
namespace VG
open PySem PySem.Spec PyProof.Rows L2
section
variable {X : Cx} {CX : CXT} {k : Nat} {f : Addr} {fd : FuncData} {ps ks : List Str} {sp : Sp} {E : XK} {x : Str} {p pos : Pos} {kws : List Keyword} {tk : TA} {g : List Value → List Value → List Value} {gV : List V → List V → List V}
/-- f(k = v, ..) -/
theorem pe_callN0 (F : FnOk X.prog X.w X.K X.mg X.base CX k f fd ps sp) (hr : Room k X.A) (hg : Gl X x) (hm : X.mg x = some (.ref f)) (hk : PySem.W.keepIn X.K (.ref f) = true) (hb : KBn X.K fd ps 0 ks g gV)
    (hx : Passes CX X E) (hkw : PK X kws tk) (n1 : (backToKw pos (keywordEach kws X.env)).all (·.1.isSome) = true := by rfl) (n2 : (backToKw pos (keywordEach kws X.env)).filterMap (·.1) = ks := by rfl)
    (n3 : (x == ("__debug__" : Str)) = false := by decide) (n4 : ((backTo pos (starEach [] X.env)).any (·.1) || (backToKw pos (keywordEach kws X.env)).any (·.1.isNone)) = false := by rfl) :
    PE X (.Call (.Name x p) [] kws pos) (tCallN 0 ks.length sp gV E tNil tk) :=
  ⟨fun pins s σ H Q I h => wpAny_Call_Name_kw (ld_glob I hg hm (PySem.W.callWith_KW0 (h₀ := X.base) I.ok.mod.kin hk n1 (thn (hkw.run pos pins s σ H _ I h) fun ws s2 ⟨zs, H2, I2, rz, l1, l2, q2⟩ =>
    ⟨I2.kIn, by rw [n2]; exact run_fnN (us := []) (vs := []) F hr hb hx I2 .nil rz l1 l2 q2⟩) n4) n3)⟩
end
/-! ### how keywords bind -/
section
variable {K : PySem.W.Frag} {x qual : Str} {params : Arguments} {body : List Stmt} {scope : Scope} {dvs : List V} {kws : List (Str × V)} {f : Addr} {fd : FuncData} {ps : List Str}
/-- some defaults, no keyword-only ones -/
theorem kbindsD (F : FunD K x qual params body scope dvs kws f fd) (n : Nat) (ks : List Str) (g : {α : Type} → List α → List α → List α → List α) (hd : dvs ≠ [])
    (hrel : ∀ {vs ds zs : List V} {us its ws : List Value}, Vals vs us → Vals ds its → Vals zs ws → Vals (g vs ds zs) (g us its ws))
    (h : ∀ (T : Addr) (kV doc pm : Value) (an : Option Addr) (cdv ct : Value) (us its ws : List Value), us.length = n → its.length = dvs.length → ws.length = ks.length →
      ∃ k, bindArgs (PySem.W.fnOf x qual params body scope (.ref T) kV doc pm an cdv ct) ⟨us, ks.zip ws⟩ = seqItems? (.ref T) >>= k ∧ k (some its.toArray) = pure (ps.zip (g us its ws))) :
    ∃ its : List Value, KBn K fd ps n ks (fun us ws => g us its ws) (fun vs zs => g vs dvs zs) := by
  obtain ⟨oc, od, dV, kV, doc, pm, an, cdv, ct, osl, rfl, lk, hcd, hD, hK⟩ := F.ex
  rcases hD with ⟨e, _⟩ | ⟨_, T, o, its, m, rfl, lT, oT, rT⟩
  · exact absurd e hd
  · refine ⟨its, fun s us ws X l1 l2 => BindsTo.of_looks fun M => ?_, fun r1 r2 => hrel r1 rT r2⟩
    obtain ⟨k, e1, e2⟩ := h T kV doc pm an cdv ct us its ws l1 rT.length.symm l2
    rw [e1]
    exact looks_items X lT oT (.of_pure e2)
/-- no defaults at all -/
theorem kbindsN (F : FunD K x qual params body scope [] kws f fd) (n : Nat) (ks : List Str) (g : {α : Type} → List α → List α → List α)
    (hrel : ∀ {vs zs : List V} {us ws : List Value}, Vals vs us → Vals zs ws → Vals (g vs zs) (g us ws))
    (h : ∀ (kV doc pm : Value) (an : Option Addr) (cdv ct : Value) (us ws : List Value), us.length = n → ws.length = ks.length →
      bindArgs (PySem.W.fnOf x qual params body scope .none kV doc pm an cdv ct) ⟨us, ks.zip ws⟩ = pure (ps.zip (g us ws))) : KBn K fd ps n ks (fun us ws => g us ws) (fun vs zs => g vs zs) := by
  obtain ⟨oc, od, dV, kV, doc, pm, an, cdv, ct, osl, rfl, lk, hcd, hD, hK⟩ := F.ex
  rcases hD with ⟨_, rfl⟩ | ⟨e, _⟩
  · exact ⟨fun s us ws _ l1 l2 => .of_eq (h kV doc pm an cdv ct us ws l1 l2), fun r1 r2 => hrel r1 r2⟩
  · exact absurd rfl e
theorem fun_of {st : Stmt} {f : Addr} {fd : FuncData} {kws : List (Str × V)} (F : FunD K x qual (defArgs st) (defBody st) (defScope st) [] kws f fd) : Fun K x qual st f fd := by
  obtain ⟨oc, od, dV, kV, doc, pm, an, cdv, ct, osl, e, lk, hcd, hD, hK⟩ := F.ex
  rcases hD with ⟨_, rfl⟩ | ⟨e, _⟩
  · exact ⟨⟨oc, od, kV, doc, pm, an, cdv, ct, osl, e, lk, hcd⟩, F.kp⟩
  · exact absurd rfl e
end
section
variable {X : Cx}
def rInT (K : PySem.W.Frag) (neg : Bool) : R2 := fun x y H Q => ∃ d ds, Dp K H x d ∧ Dp K H y (.tuple ds) ∧ SeqAt.shaped d = true ∧ SeqAt.shaped (.tuple ds) = true ∧
  Q (.bl (if neg then !ds.any fun z => PyData.eqv z d else ds.any fun z => PyData.eqv z d)) H
theorem room_inT {A : Around} {d : PyData} {xs : List PyData} (h : SeqAt.shaped d = true) (hu : A.units + 65 < cLine) : A.units + 1 + min (PyData.depthAll xs) d.depth < cLine := by
  have z := SeqAt.depth_of_shaped h
  have := Nat.min_le_right (PyData.depthAll xs) d.depth
  omega
theorem op_inT (hu : X.A.units + 65 < cLine) : OpR X (compareOp .In) (rInT X.K false) := by
  rintro pins s σ H x y v u Q I rx ry ⟨d, ds, hd, he, sd, se, q⟩
  obtain ⟨as, r1⟩ := Dp.reads I d x v hd rx
  obtain ⟨bs, r2⟩ := Dp.reads I (.tuple ds) y u he ry
  exact SeqAt.in_tuple_reads r2 r1 (SeqAt.canLay_of_shaped se) (SeqAt.canLay_of_shaped sd) (room_inT sd hu) ⟨.bl _, H, I, rfl, q⟩
theorem op_notInT (hu : X.A.units + 65 < cLine) : OpR X (compareOp .NotIn) (rInT X.K true) := by
  rintro pins s σ H x y v u Q I rx ry ⟨d, ds, hd, he, sd, se, q⟩
  obtain ⟨as, r1⟩ := Dp.reads I d x v hd rx
  obtain ⟨bs, r2⟩ := Dp.reads I (.tuple ds) y u he ry
  exact SeqAt.notIn_tuple_reads r2 r1 (SeqAt.canLay_of_shaped se) (SeqAt.canLay_of_shaped sd) (room_inT sd hu) ⟨.bl _, H, I, rfl, q⟩
end
theorem Same.tup {K : PySem.W.Frag} {H H' : Hp} {a : Addr} {xs : List V} (e : Same H H') (h : SqT K H a xs) : SqT K H' a xs := by
  rcases h with (h | ⟨o, h⟩) | h
  · exact .inl (.inl (e _ _ h))
  · exact .inl (.inr ⟨o, e _ _ h⟩)
  · exact .inr h
mutual
theorem Dp.same {K : PySem.W.Frag} {H H' : Hp} (e : Same H H') : ∀ (d : PyData) (v : V), Dp K H v d → Dp K H' v d
  | .none, _, h => by cases h; exact .non
  | .bool b, _, h => by cases h; exact .bl b
  | .int i, _, h => by cases h; exact .int i
  | .str x, _, h => by cases h; exact .str x
  | .list ds, _, h => by
    cases h with
    | lst a b => exact .lst (e.seq a) (DpAll.same e ds _ b)
  | .tuple ds, _, h => by
    cases h with
    | tup a b => exact .tup (Same.tup e a) (DpAll.same e ds _ b)
  | .dict _, _, h => by cases h
theorem DpAll.same {K : PySem.W.Frag} {H H' : Hp} (e : Same H H') : ∀ (ds : List PyData) (vs : List V), DpAll K H vs ds → DpAll K H' vs ds
  | [], _, h => by cases h; exact .nil
  | d :: ds, _, h => by
    cases h with
    | cons a b => exact .cons (Dp.same e d _ a) (DpAll.same e ds _ b)
end
end VG

set_option maxRecDepth 100000
/-! Own exceptions whose __init__ begins with super().__init__('..'). -/
namespace VG
open PySem PySem.Spec PyProof.Rows L2
open PySem.W (ksFn ksEnv)

/-! ### the wrapper that super().__init__ is, called -/
section
variable {prog : Program} {w : World} {A : Around} {E : Value → Shared → Prop} {h : Heap} {g : Array GenState} {d : Drawn} {t : Nat} {os : OsState} {nm q : Str} {C N : Addr} {bs bm : List Value} {hdct : Bool} {sn : List Str} {sub : List Value} {ab : Bool} {col : Option Bool} {dd : Option Addr}
  {k0 k1 k2 k3 k5 : Option Value} {B i newId : String} {bmB : List Value}
theorem call_mw (FB : ExcBaseFacts B newId i bmB) {u e t0 : Addr} {rest : List Value} {Q : Value → Shared → Prop} (hC : h.get? C = some (excClassObj nm q C N bs bm hdct sn sub ab col dd k0 k1 k2 k3 k5 newId)) (he : h.get? e = some (PySem.HandSPX.excO C t0))
    (hu : h.get? u = some (PySem.W.kxs_mw i e)) (hz : rest.length ≤ sizeLine)
    (hq : ∀ h' t1, (∀ b o, b ≠ e → h.get? b = some o → h'.get? b = some o) → h'.get? e = some (PySem.HandSPX.excO C t1) → Q .none ⟨h', g, d, t, os⟩) : wpAny (model prog w) A (call (.ref u) rest) Q E ⟨h, g, d, t, os⟩ := by
  refine wpAny_call (codeAny_of_tree ?_)
  show wpAny _ A.in1 (callAny (.ref u) ⟨rest, []⟩) _ _ _
  simp only [callAny]
  refine wpAny_bind (wpAny_load hu ?_)
  simp only [PySem.W.kxs_mw, show (Value.type "method-wrapper" == Value.type "method" || Value.type "method-wrapper" == Value.type "builtin_function_or_method" || Value.type "method-wrapper" == Value.type "method-wrapper") = true by decide, if_true]
  refine PySem.W.KFB.if_so (by decide) (wpAny_bind (PySem.W.check_bound_init FB.toExcCallFacts hC he rfl (wpAny_bind (wpAny_pure (wpAny_pure ⟨PySem.plainId_quiet FB.init.plain _, codeAny_builtin FB.initEntry ?_⟩)))))
  exact PySem.W.exc_init_tree (cls := .ref C) (t0 := t0) (dv := none) (c2 := .none) (c3 := .none) (b4 := .bool false) he hz fun h' k1 k2 _ => hq h' _ k1 k2
end

/-! ### the frame of such an __init__ -/
/-- no name of its own but the parameters; what it captures is its class alone -/
structure IniScope (ps : List Str) (sc : Scope) : Prop where
  kind : sc.kind = .function
  co : sc.isCoroutine = false
  gen : sc.isGenerator = false
  nd : ps.Nodup
  par : ∀ x ∈ ps, sc.names.lookup x = some .local
  noc : ∀ y ∈ sc.names, y.2 ≠ .cell
  fre : ∀ y ∈ sc.names, y.2 = .free → y.1 = "__class__"
  sup : sc.names.lookup ("super" : Str) = some .globalImplicit
  cls : sc.names.lookup ("__class__" : Str) = some .free
def iniCx (P : Program) (w : World) (K : PySem.W.Frag) (mg : Str → Option Value) (base : Heap) (ps : List Str) (qual : Str) (sc : Scope) (f cda cc : Addr) (A : Around) (outer : List Env) (s : Shared) (H : Hp) : Cx where
  prog := P
  w := w
  K := K
  mg := mg
  base := base
  A := A.deeper (ksEnv qual sc s.heap.objs.size f (.ref cda) cc)
  N := ps
  s_0 := s
  H_0 := H
  env := ksEnv qual sc s.heap.objs.size f (.ref cda) cc
  outer := outer
  stack := ksEnv qual sc s.heap.objs.size f (.ref cda) cc :: outer
  ex := []
  fn := fun _ => false
  calm := true
  pn := []
  xe := fun _ _ => False
theorem lookup_of_mem {x : Str} {u : Value} : ∀ {l : List (Str × Value)}, (l.map (·.1)).Nodup → (x, u) ∈ l → l.lookup x = some u
  | [], _, h => by cases h
  | (y, v) :: r, nd, h => by
    have nd' := List.nodup_cons.mp nd
    rcases List.mem_cons.mp h with e | h2
    · cases e
      simp [List.lookup]
    · have ne : (x == y) = false := by
        refine beq_eq_false_iff_ne.mpr fun z => nd'.1 ?_
        rw [← z]
        exact List.mem_map.mpr ⟨_, h2, rfl⟩
      rw [List.lookup_cons, ne]
      exact lookup_of_mem nd'.2 h2
theorem zip_keys : ∀ {ps : List Str} {us : List Value}, us.length = ps.length → (ps.zip us).map (·.1) = ps
  | [], [], _ => rfl
  | p :: ps, u :: us, h => by
    show p :: (ps.zip us).map (·.1) = p :: ps
    rw [zip_keys (by simpa using h)]
  | [], _ :: _, h => by cases h
  | _ :: _, [], h => by cases h
theorem zip_mem : ∀ {ps : List Str} {us : List Value} {i : Nat} {x : Str} {u : Value}, ps[i]? = some x → us[i]? = some u → (x, u) ∈ ps.zip us
  | [], _, _, _, _, h, _ => by simp at h
  | _ :: _, [], _, _, _, _, h => by simp at h
  | p :: ps, v :: us, 0, x, u, h1, h2 => by
    simp at h1 h2
    subst h1 h2
    exact List.mem_cons_self
  | p :: ps, v :: us, i + 1, x, u, h1, h2 => List.mem_cons_of_mem _ (zip_mem (i := i) (by simpa using h1) (by simpa using h2))
theorem cell_one {x : Str} {cc c : Addr} (h : ([("__class__", cc)] : List (Str × Addr)).lookup x = some c) : x = "__class__" ∧ c = cc := by
  rw [List.lookup_cons] at h
  cases e : (x == ("__class__" : Str)) with
  | true =>
    rw [e] at h
    exact ⟨beq_iff_eq.mp e, (Option.some.inj h).symm⟩
  | false =>
    rw [e] at h
    cases h
theorem ini_start {P : Program} {w : World} {K : PySem.W.Frag} {mg : Str → Option Value} {base : Heap} {ps : List Str} {qual : Str} {sc : Scope} {f cda cc : Addr} {A : Around} {outer : List Env} {s : Shared} {H : Hp} {us : List Value} {vs : List V} {h₁ : Heap} {tk : Nat} {oc : Obj} {v0 : Option Value}
    (S : IniScope ps sc) (hd : A.handled = none) (e0 : Env0 P w K mg base A outer s H) (hl : us.length = ps.length) (r : Vals vs us) (lc : K.lookup cc = some oc) (dc : oc.data = .cell v0)
    (hns : h₁.Ns s.heap.objs.size fun y => (ps.zip us).reverse.lookup y) (hk : ∀ b o, s.heap.get? b = some o → h₁.get? b = some o) :
    Inv (iniCx P w K mg base ps qual sc f cda cc A outer s H) [] (vs.map some) H { s with heap := h₁, toks := tk } := by
  have noA : ∀ b : Addr, b ∉ (iniCx P w K mg base ps qual sc f cda cc A outer s H).ex := fun b z => absurd (show b ∈ ([] : List Addr) from z) (by simp)
  have cb := e0.bs cc oc (e0.mod.kin cc oc lc)
  refine ⟨⟨e0.mod, S.kind, rfl, rfl, Nat.le_refl _, fun x y c h1 h2 => ?_, fun x hx => ?_, fun x c z _ => ?_, fun _ => hd, Around.frames_deeper e0.frames, .inr ⟨rfl, rfl⟩, fun b z => absurd z (noA b), e0.bs, e0.bsz, fun b _ _ => noA b, fun b z => absurd z (noA b), e0.funs, e0.frf⟩,
    rfl, e0.bare, Un.kept hk, ⟨_, hns, fun i x v h1 h2 h3 => ?_⟩, fun x c h => ?_, e0.hok.fresh (Nat.le_refl _), fun x c h => ?_, fun p hp => absurd (show p ∈ ([] : List (Addr × Obj)) from hp) (by simp), e0.hok.kept hk, ?_⟩
  · exact (cell_one h1).1.trans (cell_one h2).1.symm
  · have hx : sc.names.lookup x = some .cell ∨ sc.names.lookup x = some .free := hx
    rcases hx with z | z
    · exact absurd rfl (S.noc _ (PySem.mem_of_lookup z))
    · have e := S.fre _ (PySem.mem_of_lookup z) rfl
      have e : x = "__class__" := e
      subst e
      exact ⟨cc, show ([("__class__", cc)] : List (Str × Addr)).lookup ("__class__" : Str) = some cc by simp [List.lookup]⟩
  · have z : false = true := z
    cases z
  · have hi : i < vs.length := by
      by_cases z : i < vs.length
      · exact z
      · rw [List.getElem?_eq_none (by rw [List.length_map]; omega)] at h2
        cases h2
    have ha : vs[i]? = some v := by
      rw [List.getElem?_map] at h2
      cases e : vs[i]? with
      | none => rw [e] at h2; cases h2
      | some a => rw [e] at h2; cases h2; rfl
    obtain ⟨u, hu, rv⟩ := r.get ha
    have kl := S.par x (List.mem_of_getElem? h1)
    refine ⟨u, rv, .inl ⟨kl, ?_⟩⟩
    refine lookup_of_mem ?_ (List.mem_reverse.mpr (zip_mem h1 hu))
    rw [List.map_reverse, zip_keys hl]
    exact List.pairwise_reverse.mpr (S.nd.imp Ne.symm)
  · obtain ⟨_, rfl⟩ := cell_one h
    exact ⟨v0, oc, hk _ _ cb.1, dc⟩
  · obtain ⟨_, rfl⟩ := cell_one h
    exact cb.2
  · show (vs.map some).length = ps.length
    rw [List.length_map, r.length, hl]

/-! ### such an __init__ keeps a promise -/
/-- what the written part tells of the class at C, of its __init__ at f (its cell at cc, its code at cda) -/
structure IniTxt (P : Program) (K : PySem.W.Frag) (mg : Str → Option Value) (B i newId : String) (bmB : List Value) (C f cc cda : Addr) (qual : Str) (params : Arguments) (body : List Stmt) (sc : Scope) (fd : FuncData) : Prop where
  kf : PySem.W.KxsFacts B i
  fb : ExcBaseFacts B newId i bmB
  fn : ∃ oc od dV kV doc pm an ct osl, fd = ksFn "__init__" qual params body sc dV kV doc pm an (.ref cda) ct cc ∧ K.lookup f = some ⟨oc, od, .func fd, osl⟩
  code : PySem.W.codeIn K (.ref cda) qual = true
  file : ∃ ccl cdd vs ccs tf, K.lookup cda = some ⟨ccl, cdd, .fields vs, ccs⟩ ∧ vs[2]? = some (.str P.main.file tf)
  cell : ∃ cl cld csl, K.lookup cc = some ⟨cl, cld, .cell (some (.ref C)), csl⟩
  cls : ∃ nm q N bs bm hdct sn sub ab col dd k0 k1 k2 k3 k5, K.lookup C = some (excClassObj nm q C N bs bm hdct sn sub ab col dd k0 k1 k2 k3 k5 newId)
  up : PySem.W.ks_superIn K C C "__init__" = some (some (.builtin i))
  isB : PySem.W.subIn K (.ref C) (.type B) = some true
  self : PySem.W.mroIn K C (.ref C) = some true
  opq : PySem.W.nsIn K cStatics "thirdparty.any" = some none
  sup : mg "super" = none
  top : (P.main.scope.names.lookup ("super" : Str)).isSome = false
abbrev superInit (p0 p1 p2 p3 p4 p5 : Pos) (j : Nat) (z : Str) : Stmt := .Expr (.Call (.Attribute (.Call (.Name "super" p0) [] [] p1) "__init__" p2) [.Constant (.str z) j p3] [] p4) p5
def spIni (C : Addr) (t : TS) : Sp := fun vs H Q _ => ∃ (a : Addr) (ws : List V), vs = .ref a :: ws ∧ H a = some (exo a C none) ∧ t { nx := fun _ H' => Q .non H', rt := Q } (vs.map some) H
section
variable {P : Program} {w : World} {K : PySem.W.Frag} {mg : Str → Option Value} {base : Heap} {B i newId : String} {bmB : List Value} {C f cc cda : Addr} {qual : Str} {params : Arguments} {rest : List Stmt} {sc : Scope} {fd : FuncData} {ps : List Str} {p0 p1 p2 p3 p4 p5 : Pos} {j k : Nat} {z : Str} {self : Arg} {sp : Sp}
/-- how super().__init__('..') is run, where it stands on one line -/
def SupEv (p0 p1 p2 p3 p4 : Pos) (j : Nat) (z : Str) : Prop := ∀ env : Env, ∃ pl : Sem Bool, eval (.Call (.Attribute (.Call (.Name "super" p0) [] [] p1) "__init__" p2) [.Constant (.str z) j p3] [] p4) env = (do
  let ov ← attributeBase (.Call (.Name "super" p0) [] [] p1) "__init__" env (eval (.Call (.Name "super" p0) [] [] p1) env)
  standAt p2.atName
  let (f, first) ← holding [ov] (getMethod ov "__init__" pl)
  callWith p4 f first (backTo p4 (starEach [.Constant (.str z) j p3] env)) [])
theorem ini_ok (hev : SupEv p0 p1 p2 p3 p4 j z) (T : IniTxt P K mg B i newId bmB C f cc cda qual params (superInit p0 p1 p2 p3 p4 p5 j z :: rest) sc fd) (S : IniScope ps sc) (hself : (params.posonlyargs ++ params.args).head? = some self) (hp0 : ps[0]? = some self.arg)
    (many : ∀ vs H Q E, sp vs H Q E → vs.length = ps.length)
    (body : ∀ (A : Around) (outer : List Env) (s : Shared) (H : Hp) (vs : List V) (Q : VK) (E : XK), Room k (A.deeper (ksEnv qual sc s.heap.objs.size f (.ref cda) cc)) → sp vs H Q E →
      ∃ a ws, vs = .ref a :: ws ∧ H a = some (exo a C none) ∧ ∃ t, PSs (iniCx P w K mg base ps qual sc f cda cc A outer s H) rest t ∧ t { nx := fun _ H' => Q .non H', rt := Q } (vs.map some) H) :
    FnOk P w K mg base CX0 (k + 1) f fd ps sp := by
  obtain ⟨oc, od, dV, kV, doc, pm, an, ct, osl, rfl, lk⟩ := T.fn
  obtain ⟨ccl, cdd, cvs, ccs, tf, lcode, hfile⟩ := T.file
  obtain ⟨cl, cld, csl, lcell⟩ := T.cell
  obtain ⟨nm, q, N, bs, bm, hdct, sn, sub, ab, col, dd, k0, k1, k2, k3, k5, lC⟩ := T.cls
  refine ⟨many, fun A outer s H args us vs Q E hr e0 hb r hsp => ?_⟩
  have KX : K.In s.heap := e0.mod.kin.keeps fun b o e => (e0.bs b o e).1
  have lim : s.heap.NoLimit := e0.mod.nolimit.keeps fun b o e => (e0.bs b o e).1
  have hl : us.length = ps.length := r.length.symm.trans (many _ _ _ _ hsp)
  refine PySem.ks_codeAny_call_defAt (body := superInit p0 p1 p2 p3 p4 p5 j z :: rest) (binds := ps.zip us) hr.depth (KX _ _ lk) rfl lim (PySem.W.codeRec_of KX T.code) rfl hb S.noc (fun y hy => S.par y.1 (List.of_mem_zip hy).1) (fun h₁ hns hk => ?_) S.co S.gen S.kind
  obtain ⟨a, ws, rfl, hea, t, ht, hq⟩ := body A outer s H vs Q E (hr.deeper _) hsp
  have I : Inv (iniCx P w K mg base ps qual sc f cda cc A outer s H) [] ((V.ref a :: ws).map some) H { s with heap := h₁, toks := s.toks + (ps.zip us).length } := ini_start S hr.hd e0 hl r lcell rfl hns hk
  have hu0 : us[0]? = some (.ref a) := by
    obtain ⟨u, h1, h2⟩ := r.get (i := 0) (x := .ref a) rfl
    rw [h1]
    exact congrArg some h2
  have hself' : (ps.zip us).reverse.lookup self.arg = some (.ref a) := by
    refine lookup_of_mem ?_ (List.mem_reverse.mpr (zip_mem hp0 hu0))
    rw [List.map_reverse, zip_keys hl]
    exact List.pairwise_reverse.mpr (S.nd.imp Ne.symm)
  have fin : ∀ {σ' : L2.St} {H' : Hp} {v : V} {u : Value} {s' : Shared}, Inv (iniCx P w K mg base ps qual sc f cda cc A outer s H) [] σ' H' s' → RelV v u → Q v H' → CE outer P w H s Q u s' := fun J rv q => ⟨_, _, J.os, J.bare, J.base, J.hok, rv, q⟩
  have X1 := I.kIn
  obtain ⟨mb, hmb, hbb⟩ := I.mod.blt
  obtain ⟨t0, hoe⟩ := exo_at I.hok hea
  have hC1 := X1 _ _ lC
  have hcd : PySem.W.clsIn K C = some { name := nm, bases := bs, mro := .ref C :: bm, ns := N, qualname := q, hasDict := hdct, slotNames := sn, subclasses := sub, abstract := ab, collection := col, hasDel := false } := by
    unfold PySem.W.clsIn
    rw [lC] <;> rfl
  have hint : interactive (ksEnv qual sc s.heap.objs.size f (.ref cda) cc) = false := by
    unfold interactive
    simp [S.kind]
  obtain ⟨pl, he⟩ := hev (ksEnv qual sc s.heap.objs.size f (.ref cda) cc)
  refine PySem.ks_wpAt_execs_cons (PySem.ks_wpAt_Expr_any (PySem.ks_wpAt_MethodCall (pl := pl) ?_ he) hint)
  refine PySem.ks_wpAt_super_base (env := ksEnv qual sc s.heap.objs.size f (.ref cda) cc) S.sup S.cls (by decide) rfl (X1 _ _ lk) rfl hself rfl (X1 _ _ lcode) rfl hfile (beq_self_eq_true _) T.top ?_
  refine PySem.W.ks_loadName_global S.kind S.sup (Calls.loadGlobal_builtin (env := ksEnv qual sc s.heap.objs.size f (.ref cda) cc) (I.mod.glob.keeps I.bk) T.sup (hmb.keeps I.bk) ((hbb "super" (by decide +kernel)).trans PyProof.Rows.Boot.«super») ⟨rfl, ?_⟩)
  refine wpAny_loadName_free S.kind S.cls rfl ⟨_, X1 _ _ lcell, rfl⟩ ?_
  refine wpAny_loadName_local S.kind (S.par _ (List.mem_of_getElem? hp0)) hns hself' ?_
  refine PySem.ks_wpAny_isType_cls hC1 rfl ⟨rfl, ?_⟩
  refine PySem.ks_wpAny_call_super hC1 rfl hoe rfl (fun c e => by cases e) (PySem.W.looks_mroIn X1 T.self) (fun h2 e2 k2 => ?_)
  have I2 := I.kept (t' := s.toks + (ps.zip us).length) k2
  have X2 := I2.kIn
  have hoe2 := k2 _ _ hoe
  have J2 : PySem.W.InstAt h2 a (PySem.HandSPX.excO C t0) C none := ⟨hoe2, rfl, rfl, trivial⟩
  have hup : PySem.W.alongIn K "__init__" (((Value.ref C :: bm).dropWhile (· != .ref C)).drop 1) = some (some (.builtin i)) := by
    have z := T.up
    unfold PySem.W.ks_superIn at z
    rw [hcd] at z
    exact z
  have haC : a ≠ C := fun z => by
    have n := (I.bs C _ (I.mod.kin _ _ lC)).2
    rw [← z, hea] at n
    cases n
  refine PySem.W.kxs_getMethod T.kf e2 (PySem.W.looks_opaque X2 T.opq) (l₀ := .ref C :: bm) (fun A Q E s k q => wpAny_bind ((PySem.W.looks_clsIn X2 hcd) A _ E s k (wpAny_pure q))) rfl X2 hup (J2.type.andThen (PySem.W.looks_subIn X2 T.isB)) haC (by decide) ?_
  have I3 : Inv (iniCx P w K mg base ps qual sc f cda cc A outer s H) [(h2.objs.size, PySem.W.kxs_mw i a)] ((V.ref a :: ws).map some) H ⟨h2.push (PySem.W.kxs_mw i a), s.gens, s.drawn, s.toks + (ps.zip us).length + 1, s.os⟩ :=
    ClX.pin_new (s := ⟨h2, s.gens, s.drawn, s.toks + (ps.zip us).length, s.os⟩) (t' := s.toks + (ps.zip us).length + 1) I2 (fun b o e => Heap.get?_push_of_some _ e) (Nat.le_refl _) (Heap.get?_push_size _ rfl) (fun v z => nomatch z)
  refine PySem.W.kxs_callWith (i := i) (x := a) rfl (PySem.Calls.evalArgs_plain ?_)
  have PA1 : PA (iniCx P w K mg base ps qual sc f cda cc A outer s H) [.Constant (.str z) j p3] (tCons (tC (.str z)) tNil) := pa_cons pe_str pa_nil
  refine thnF (PA1.run p4 _ _ ((V.ref a :: ws).map some) H (fun vs H' => vs.length ≤ 1 ∧ H' = H) I3 ⟨Nat.le_refl _, rfl⟩) fun us4 s4 ⟨vs4, H4, I4, r4, l4, e4⟩ => ?_
  subst e4
  refine ⟨ClX.pin_at I4, ?_⟩
  have X4 := I4.kIn
  obtain ⟨t4, hoe4⟩ := exo_at I4.hok hea
  obtain ⟨g4, gs4, d4, tk4, os4⟩ := s4
  refine call_mw T.fb (X4 _ _ lC) hoe4 (ClX.pin_at I4) (by show us4.length ≤ sizeLine; rw [← r4.length, sizeLine_eq]; omega) fun h5 t5 k5 e5 => ?_
  have I5 := (ClX.unpin I4).write (t' := tk4) (x := a) (e := a) (o := exo a C none) (by rw [hea]; exact True.intro) (.inl rfl) k5 ⟨_, e5⟩ (exo_ok e5)
  have eu : upd H4 a (exo a C none) = H4 := by
    funext b
    by_cases hb : b = a
    · rw [hb, upd_same, hea]
    · rw [upd_ne hb]
  rw [eu] at I5
  refine wpAt_of_wpAny (thnF (ht.run [] _ _ _ _ I5 hq) fun fl s' hs => ?_)
  match fl, hs with
  | .ret u, hs =>
    obtain ⟨v, σ', H', J, rv, q⟩ := hs
    exact fin J rv q
  | .next, hs =>
    obtain ⟨σ', H', J, q⟩ := hs
    exact fin (v := V.non) (u := Value.none) J rfl q
  | .brk, hs =>
    obtain ⟨_, _, _, q⟩ := hs
    exact False.elim q
  | .cont, hs =>
    obtain ⟨_, _, _, q⟩ := hs
    exact False.elim q
end
end VG

set_option maxRecDepth 100000
/-! The name of an exception's class; errors that keep what they were given. -/
namespace VG
open PySem PySem.Spec PyProof.Rows L2

/-! ### o.__class__ of an own exception, C.__name__ of an own class -/
structure ClsTxt (K : PySem.W.Frag) (C : Addr) (nm : Str) : Prop where
  ga : PySem.W.findIn K (.ref C) "__getattribute__" = some (some (.builtin "BaseException.__getattribute__"))
  gg : PySem.W.findIn K (.ref C) "__getattr__" = some none
  exC : PySem.W.subIn K (.ref C) (.type "BaseException") = some true
  isC : (PySem.W.clsIn K C).isSome = true
  ca : PySem.W.findIn K (.ref C) "__class__" = some (some (.builtin "object.__class__"))
  cn : PySem.W.specialIn K (.builtin "object.__class__") "__get__" = some (some (.builtin "getset_descriptor.__get__"))
  ct : PySem.W.takesIn K (.builtin "object.__class__") = some true
  cm : PySem.W.mroIn K C (.type "object") = some true
  rd : PySem.W.readsIn K C (.type "type") = true
  na : PySem.W.findCls K (.ref C) (.type "type") "__name__" = some (.get (.builtin "getset_descriptor.__get__") (.builtin "type.__name__") (.ref C) (.type "type"))
  ty : PySem.W.typeIn K (.ref C) = some (.type "type")
  nm : ∃ oc od dt sl tk, K.lookup C = some ⟨oc, od, dt, sl⟩ ∧ sl[2]? = some (some (.str nm tk))
section
variable {prog : Program} {w : World} {A : Around} {E : Value → Shared → Prop} {s : Shared} {K : PySem.W.Frag} {C x : Addr} {nm : Str} {ox : Obj} {od : Option Obj}
theorem find_class (T : ClsTxt K C nm) : PySem.W.findObj K C od "__class__" = some (.bind (.builtin "getset_descriptor.__get__") (.builtin "object.__class__")) := by
  obtain ⟨cd, hc⟩ := Option.isSome_iff_exists.mp T.isC
  unfold PySem.W.findObj
  rw [hc, Option.bind_some, T.ca, Option.bind_some]
  simp [T.cn, T.ct]
theorem get_class {expr : Bool} {Q : Value → Shared → Prop} (T : ClsTxt K C nm) (X : K.In s.heap) (I : PySem.W.InstAt s.heap x ox C od) (h : Q (.ref C) { s with toks := s.toks + 1 }) : wpAny (model prog w) A (getAttr (.ref x) "__class__" expr) Q E s := by
  obtain ⟨hp, g, d, t, os⟩ := s
  have ty := I.type (M := model prog w)
  have own : (onTheHeap (Value.ref C) && Value.builtin "BaseException.__getattribute__" == Value.builtin "object.__getattribute__") = false := by
    rw [show (Value.builtin "BaseException.__getattribute__" == Value.builtin "object.__getattribute__") = false by decide +kernel, Bool.and_false]
  have plain : (expr && onTheHeap (Value.builtin "BaseException.__getattribute__")) = false := by cases expr <;> rfl
  unfold getAttr getAttrBy
  refine wpAny_bind (wpAny_mkText (wpAny_holding (wpAny_bind (ty.at (wpAny_bind ((PySem.W.looks_findIn X T.ga).at ?_))))))
  dsimp only
  rw [own, if_neg (by decide)]
  unfold getAttrByItsOwn hookBefore
  refine wpAny_bind ?_
  rw [if_pos (show onTheHeap (Value.ref C) = true from rfl)]
  refine (PySem.W.looks_findIn X T.gg).at (wpAny_bind (wpAny_attempt (wpAny_holding ?_)))
  unfold callGetattribute
  rw [plain, if_neg (by decide)]
  unfold boundAndCalled
  rw [PySem.F.excAttr_ValueError.ga.bind (.ref x)]
  refine wpAny_bind (wpAny_pure (wpAny_call (codeAny_call_builtin PySem.F.excAttr_ValueError.ga.plain PySem.F.entry_bexc_ga ?_)))
  refine @PySem.W.check_slot (model prog w) _ _ ⟨hp, g, d, t + 1, os⟩ "BaseException.__getattribute__" "BaseException" "__getattribute__" (.ref x) [.str "__class__" t] [] _ (by decide +kernel) (by decide +kernel)
    (ty.andThen (PySem.W.looks_subIn X T.exC)) (PySem.F.args_bexc_ga (.ref x) (.str "__class__" t)) ?_
  unfold Builtin.«object.__getattribute__»
  refine wpAny_bind (wpAny_of_eq (a := ((Value.ref x : Value), [Value.str "__class__" t])) (by first | rfl | (simp only [slotArgs]; rfl)) ?_)
  refine wpAny_bind (wpAny_pure (wpAny_bind (ty.at (wpAny_bind ((PySem.W.looks_find X I (find_class T)).at ?_)))))
  refine wpAny_bind (wpAny_holding (wpAny_call (PySem.W.class_get (s := ⟨hp, g, d, t + 1, os⟩) X I T.cm ?_)))
  refine wpAny_pure ?_
  exact PySem.W.handed_on (v := .ref C) rfl h
theorem get_name {expr : Bool} {Q : Value → Shared → Prop} (T : ClsTxt K C nm) (X : K.In s.heap) (h : ∀ tk, Q (.str nm tk) { s with toks := s.toks + 1 }) : wpAny (model prog w) A (getAttr (.ref C) "__name__" expr) Q E s := by
  obtain ⟨oc, od, dt, sl, tk, lC, hsl⟩ := T.nm
  refine PySem.W.cls_bind X T.rd T.na ?_
  obtain ⟨hp, g, d, t, os⟩ := s
  have hC := X _ _ lC
  have ty : PySem.W.Looks (model prog w) hp (typeOf (.ref C)) (.type "type") := PySem.W.looks_typeIn X T.ty
  have L1 : PySem.W.Looks (model prog w) hp (isSubtype (.type "type") (.type "type")) true := PySem.W.Looks.of_pure (by rw [isSubtype_type]; kernel_rfl)
  refine wpAny_call (codeAny_call_builtin PySem.W.KF.slot_gs.plain PySem.W.KF.entry_gs (PySem.W.KF.slot_gs.check _ _ _ _ _ _ _ _ PySem.W.ktyn_type (PySem.W.KF.args_gs _ _ _) ?_))
  unfold Builtin.«getset_descriptor.__get__» Builtin.Getset_descriptor.descrGet
  rw [PySem.W.dga_obj]
  refine wpAny_bind (wpAny_pure ?_)
  unfold Builtin.Getset_descriptor.descrGetter Builtin.Getset_descriptor.descrCheckInstance Builtin.Getset_descriptor.descrNameAndClass isInstance
  simp only [PySem.W.ktyn_owner]
  repeat lk
  refine ⟨Code.quiet_builtin _ (by decide +kernel), codeAny_builtin PySem.W.ktyn_entry ?_⟩
  unfold Builtin.«type.__name__» Builtin.keptObject PySem.slotAt
  dsimp only
  refine wpAny_bind (wpAny_bind (wpAny_bind (wpAny_loadPart_at hC (wpAny_pure ?_))))
  rw [hsl]
  exact wpAny_pure (wpAny_pure (PySem.W.handed_on (v := .str nm tk) rfl (h tk)))
end
/-- o.__class__.__name__, o an exception that is being made -/
def tClsName (K : PySem.W.Frag) (to : TE) : TE := fun σ H Q => to σ H fun x H1 => ∃ (a C : Addr) (nm : Str), x = .ref a ∧ ClsTxt K C nm ∧ (H1 a = some (exo a C none) ∨ ∃ (dx : Addr) (fs : List (Str × V)), H1 a = some (exo a C (some dx)) ∧ H1 dx = some (exd dx fs)) ∧ Q (.str nm) H1
theorem pe_clsName {X : Cx} {o : Expr} {to : TE} {p1 p2 : Pos} (ho : PE X o to) (b1 : attributeBase o "__class__" X.env (eval o X.env) = eval o X.env := by rfl)
    (b2 : attributeBase (.Attribute o "__class__" p1) "__name__" X.env (eval (.Attribute o "__class__" p1) X.env) = eval (.Attribute o "__class__" p1) X.env := by rfl) :
    PE X (.Attribute (.Attribute o "__class__" p1) "__name__" p2) (tClsName X.K to) := by
  refine ⟨fun pins s σ H Q I h => ?_⟩
  refine attr_of b2 (attr_of b1 (thn (ho.run pins s σ H _ I h) fun u s1 ⟨x, H1, I1, rx, a, C, nm, ex, T, hea, q⟩ => ?_))
  subst ex
  obtain rfl : u = Value.ref a := rx
  have fin : ∀ {ox : Obj} {od : Option Obj}, PySem.W.InstAt s1.heap a ox C od → wpAny (model X.prog X.w) X.A (getAttr (.ref a) "__class__" true) (fun o s₁ => wpAny (model X.prog X.w) X.A (getAttr o "__name__" true) (EP X pins σ Q) X.xe s₁) X.xe s1 := fun J =>
    get_class T I1.kIn J (get_name T (I1.tok _).kIn fun tk => ⟨.str nm, H1, (I1.tok _).tok _, ⟨tk, rfl⟩, q⟩)
  rcases hea with e | ⟨dx, fs, e, ed⟩
  · obtain ⟨t1, ho1⟩ := exo_at I1.hok e
    exact fin (od := none) ⟨ho1, rfl, rfl, trivial⟩
  · obtain ⟨t1, ho1⟩ := exo_at I1.hok e
    obtain ⟨mA, hns, rel⟩ := exd_at I1.hok ed
    obtain ⟨oD, _, _, hoD, _, _⟩ := hns.count (within_of rel)
    exact fin (od := some oD) ⟨ho1, rfl, rfl, hoD⟩
end VG

set_option maxRecDepth 100000
/-! try: .. except (A, B, C) as n: .. -/
namespace VG
open PySem PySem.Spec PyProof.Rows L2

theorem flying_kept {B h h' : Heap} {l : List Env} {a : Addr} {Z : Obj → Prop} (k : ∀ b o, h.get? b = some o → h'.get? b = some o) (x : HandSPX.FlyingZ B l a Z h) : HandSPX.FlyingZ B l a Z h' := by
  obtain ⟨st, nb, ff, oe, vs, T, oT, ts, h1, h2, h3, h4, h5, h6, h7, h8, h9⟩ := x
  exact ⟨fun b o e => k b o (st b o e), nb, ff.of_keeps fun b o e _ => ⟨o, k b o e, rfl⟩, oe, vs, T, oT, ts, k _ _ h1, h2, h3, h4, h5, h6, k _ _ h7, h8, h9⟩
/-- what such a clause wishes of an exception of the body (one of another class is not looked at here) -/
def wAs3 (K : PySem.W.Frag) (cs : List Value) (i n : Nat) (ts : Addr → Value → Option Addr → TS) (D : Ends) : WX := fun cls d σ H => PySem.W.exmAny K cls cs = some true ∧
  ∀ a, H a = none → σ.length = n → ts a cls d { nx := fun σ' H' => D.nx (σ'.set i none) H', rt := D.rt, bk := fun σ' H' => D.bk (σ'.set i none) H', ct := fun σ' H' => D.ct (σ'.set i none) H' } (σ.set i (some (.ref a))) H
section
variable {X : Cx} {x1 x2 x3 n : Str} {c1 c2 c3 : Value} {i j : Nat} {body suite : List Stmt} {b₀ : Stmt} {q1 q2 q3 tpos pos pos' : Pos} {tb : WX → TS} {ts : Addr → Value → Option Addr → TS}
theorem name_at {pins : List (Addr × Obj)} {σ : L2.St} {H : Hp} {s : Shared} {x : Str} {c : Value} {p : Pos} {E : Value → Shared → Prop} {Q : Value → Shared → Prop} (I : Inv X pins σ H s) (hc : Names X x c) (q : Q c s) : wpAny (model X.prog X.w) X.A (eval (.Name x p) X.env) Q E s := by
  obtain ⟨hg, hd, hm | ⟨hm, hv, hn⟩⟩ := hc
  · exact ld_glob I hg hm q hd
  · exact ld_blt I hg hm hv q hn hd
theorem ps_try_as3 (hs : X.stack = X.env :: X.outer) (hf : X.env.frame = some X.env.locals) (hN : X.N.Nodup) (hi : X.N[i]? = some n) (hln : X.env.kindOf n = some .local) (n1 : Names X x1 c1) (n2 : Names X x2 c2) (n3 : Names X x3 c3)
    (hb : ∀ (W : WX) (pn : List (Addr × Obj)) (xe : Value → Shared → Prop), Takes (X.tr pn xe) W → PassesOwn (model X.prog X.w) X.A X.env xe → PSs (X.tr pn xe) body (tb W))
    (hsu : ∀ (a : Addr) (oe : Obj) (cls : Value) (d : Option Addr) (pn : List (Addr × Obj)), Zc cls d oe → (∃ vs, oe.data = .fields vs) → PSs (X.suite a ((a, oe) :: pn)) (b₀ :: suite) (ts a cls d)) :
    PS X (.Try body [.ExceptHandler (some (.Tuple [.Name x1 q1, .Name x2 q2, .Name x3 q3] j tpos)) (some n) (b₀ :: suite) pos'] [] [] pos) (fun D σ H => tb (wAs3 X.K [c1, c2, c3] i X.N.length ts D) D σ H) := by
  refine ⟨fun pins s σ H D I h => ?_⟩
  have ok := I.ok
  have hfr : X.A.frames = some (X.env :: X.outer) := by rw [ok.frames, hs]
  have loc : Loc X.env.scope n := .inl hln
  refine wpAny_Try_except (wpAny_mono ((hb (wAs3 X.K [c1, c2, c3] i X.N.length ts D) (X.pn ++ pins) (fun e s₁ => wpAny (model X.prog X.w) X.A (noteFrame e X.env) (fun _ s₂ => wpAny (model X.prog X.w) X.A (setFlight e none) (fun _ s₃ =>
    wpAny (model X.prog X.w) X.A (handleBy e X.env [.ExceptHandler (some (.Tuple [.Name x1 q1, .Name x2 q2, .Name x3 q3] j tpos)) (some n) (b₀ :: suite) pos']) (SP X pins D) X.xe s₃) X.xe s₂) X.xe s₁) (fun u s' xx => ?_) PassesOwn.looking).run [] s σ H D (I.toTry _) h)
    (fun f s1 hsp => ?_) (fun e s1 he => he))
  · obtain ⟨a, B, sI, pins', σ', H', cls, d, rfl, J', nb, up, sky, na, os, ag, yes, go⟩ := xx
    have J : Inv X pins σ' H' sI := J'.ofTry ok
    refine Sky.land Zc.steady hfr hf (show Sky B (X.env :: X.outer) a (Zc cls d) X.env.locals s'.heap by rw [← hs]; exact sky) fun h3 fl3 up3 => ?_
    have J3 : Inv X pins σ' H' { s' with heap := h3 } := J.landed nb fl3.1 (up.trans up3) os ag
    obtain ⟨oe3, vs3, he3, hz3, hd3⟩ := fl3.there
    have nfr : a ∉ frs (X.env :: X.outer) := fun hm => by
      obtain ⟨_, o', e', z⟩ := fl3.2.2.1.mem hm
      rw [he3] at e'
      cases e'
      exact z _ hd3
    have nL : a ≠ X.env.locals := fun z => nfr (List.mem_filterMap.mpr ⟨X.env, List.mem_cons_self, by rw [hf, z]⟩)
    have nF : a ∉ X.fs := fun hm => by
      obtain ⟨e, he, q⟩ := List.mem_filterMap.mp hm
      exact nfr (List.mem_filterMap.mpr ⟨e, List.mem_cons_of_mem _ he, q⟩)
    have S3 := J3.suite he3 hd3 na nL nF
    have up13 := up.trans up3
    refine wpAny_handleBy_cons (codeAny_handlers_test ?_) (by intro q; cases q)
    refine wpAny_Tuple (wpAny_items_cons (name_at (X := X.suite a ((a, oe3) :: (X.pn ++ pins))) S3 n1 (wpAny_items_cons (name_at (X := X.suite a ((a, oe3) :: (X.pn ++ pins))) S3 n2 (wpAny_items_cons (name_at (X := X.suite a ((a, oe3) :: (X.pn ++ pins))) S3 n3 (wpAny_items_nil ⟨by size_fits, ?_⟩)))))))
    have kp : ∀ q o, h3.get? q = some o → (h3.push { cls := .type "tuple", data := .seq [c1, c2, c3].toArray }).get? q = some o := fun _ _ z => Heap.get?_push_of_some _ z
    have ty : PySem.W.Looks (model X.prog X.w) (h3.push { cls := .type "tuple", data := .seq [c1, c2, c3].toArray }) (typeOf (.ref a)) cls := fun A Q E s k q => wpAny_typeOf_ref (k _ _ (kp _ _ he3)) (by rw [hz3.1]; exact q)
    have fl4 := flying_kept kp fl3
    have up4 : h3.UpToSlots (h3.push { cls := .type "tuple", data := .seq [c1, c2, c3].toArray }) := .of_keeps kp
    have J4 : Inv X pins σ' H' { s' with heap := h3.push { cls := .type "tuple", data := .seq [c1, c2, c3].toArray } } := J.landed nb fl4.1 (up13.trans up4) os ag
    refine (PySem.W.exm_tup3 J4.kIn ty (Heap.get?_push_size h3 rfl) yes).here ?_
    refine codeAny_handlers_suite_as (HandSPX.lands_againZ fl4 fun h5 fl5 up5 => ?_)
    have J5 : Inv X pins σ' H' { s' with heap := h5 } := J.landed nb fl5.1 ((up13.trans up4).trans up5) os ag
    obtain ⟨oe5, vs5, he5, hz5, hd5⟩ := fl5.there
    have S5 := J5.suite he5 hd5 na nL nF
    refine store_ok (X := X.suite a ((a, oe5) :: (X.pn ++ pins))) (v := .ref a) S5 hN hi loc rfl (fun s6 S6 => ?_) (.inr hln)
    refine wpAny_mono ((hsu a oe5 cls d (X.pn ++ pins) hz5 ⟨_, hd5⟩).run [] s6 _ H' _ S6 (go a na J.len)) (fun f s7 hsp => ?_) (fun _ _ z => False.elim z)
    have fin : ∀ {σ7 : L2.St} {H7 : Hp} {Q : Shared → Prop}, Inv (X.suite a ((a, oe5) :: (X.pn ++ pins))) [] σ7 H7 s7 → (∀ s8, Inv X pins (σ7.set i none) H7 s8 → Q s8) →
        wpAny (model X.prog X.w) X.A (do bindName X.env n .none; unbindBehindTheSuite X.env n pos') (fun _ s8 => Q s8) X.xe s7 := fun S7 q => gone_ok (S7.unsuite ok) hN hi hln q
    match f, hsp with
    | .next, ⟨_, _, S7, q⟩ => exact fin S7 fun s8 J8 => ⟨_, _, J8, q⟩
    | .brk, ⟨_, _, S7, q⟩ => exact fin S7 fun s8 J8 => ⟨_, _, J8, q⟩
    | .cont, ⟨_, _, S7, q⟩ => exact fin S7 fun s8 J8 => ⟨_, _, J8, q⟩
    | .ret u, ⟨v, _, _, S7, r, q⟩ => exact fin S7 fun s8 J8 => ⟨_, _, _, J8, r, q⟩
  · match f, hsp with
    | .next, ⟨σ', H', J', q⟩ => exact wpAny_execs_nil ⟨σ', H', J'.ofTry ok, q⟩
    | .brk, ⟨σ', H', J', q⟩ => exact ⟨σ', H', J'.ofTry ok, q⟩
    | .cont, ⟨σ', H', J', q⟩ => exact ⟨σ', H', J'.ofTry ok, q⟩
    | .ret u, ⟨v, σ', H', J', r, q⟩ => exact ⟨v, σ', H', J'.ofTry ok, r, q⟩
end
end VG

set_option maxRecDepth 100000
/-! A def that is called within a suite with the exception that is in hand; it reads its fields and raises nothing. -/
namespace VG
open PySem PySem.Spec PyProof.Rows L2
open L2H (RoomH PinOk cxH inv_startH)
/-- p: the exception's address and its object -/
structure FnE (P : Program) (w : World) (K : PySem.W.Frag) (mg : Str → Option Value) (base : Heap) (CX : CXT) (k : Nat) (f : Addr) (fd : FuncData) (ps : List Str) (sp : Addr × Obj → Sp) : Prop where
  many : ∀ p vs H Q E, sp p vs H Q E → vs.length = ps.length
  runs : ∀ (A : Around) (outer : List Env) (s : Shared) (H : Hp) (args : Args) (us : List Value) (vs : List V) (Q : VK) (E : XK) (p : Addr × Obj), RoomH k A → PinOk outer H s p → Env0 P w K mg base A outer s H →
    BindsTo s fd args (ps.zip us) → Vals vs us → sp p vs H Q E → codeAny (model P w) A (.call (.ref f) args) (CR CX outer P w H s Q E) s
section
variable {P : Program} {w : World} {K : PySem.W.Frag} {mg : Str → Option Value} {base : Heap}
theorem okE {x qual : Str} {st : Stmt} {f : Addr} {fd : FuncData} {N ps : List Str} {k : Nat} {sp : Addr × Obj → Sp} (F : Fun K x qual st f fd) (S : FnScope N ps (defScope st)) (many : ∀ p vs H Q E, sp p vs H Q E → vs.length = ps.length)
    (body : ∀ (cdv : Value) (A : Around) (outer : List Env) (s : Shared) (H : Hp) (vs : List V) (Q : VK) (E : XK) (p : Addr × Obj), RoomH k (A.deeper (envOfC qual (defScope st) s.heap.objs.size f cdv)) → sp p vs H Q E →
      ∃ t, PSs (cxH CX0 P w K mg base N qual (defScope st) f cdv A outer s H E p).nox (defBody st) t ∧ t { nx := fun _ H' => Q .non H', rt := Q } (L2.start N vs) H) : FnE P w K mg base CX0 (k + 1) f fd ps sp := by
  obtain ⟨oc, od, kV, doc, pm, an, cdv, ct, osl, rfl, lk, hcd⟩ := F.ex
  refine ⟨many, fun A outer s H args us vs Q E p hr pin e0 hb r q => ?_⟩
  have hl := many _ _ _ _ _ q
  have KX : K.In s.heap := e0.mod.kin.keeps fun b o e => (e0.bs b o e).1
  have lim : s.heap.NoLimit := e0.mod.nolimit.keeps fun b o e => (e0.bs b o e).1
  have kinds : ∀ y ∈ ps.zip us, (defScope st).names.lookup y.1 = some .local ∨ ((defScope st).names.lookup y.1 = some .cell ∧ ((cellsFrom (s.heap.objs.size + 1) (defScope st).names []).lookup y.1).isSome = true) := fun ⟨n, v⟩ hy => by
    rcases S.par n (List.of_mem_zip hy).1 with z | z
    · exact .inl z
    · exact .inr ⟨z, PySem.W.cellsFrom_some _ _ _ (.inl z)⟩
  refine codeAny_call_function hr.depth (KX _ _ lk) rfl S.co S.gen rfl (PySem.W.codeRec_of KX hcd) (hb _ _ _ _ ?_)
  refine wpAny_newFunctionEnv_cells S.kind kinds fun env he s1 x1 => ?_
  subst he
  refine ⟨lim.keeps x1.toInCall.keep, codeAny_func ?_⟩
  obtain ⟨t, ht, hq⟩ := body cdv A outer s H vs Q E p (hr.deeper _) q
  have I : Inv (cxH CX0 P w K mg base N qual (defScope st) f cdv A outer s H E p) [] (L2.start N vs) H s1 := inv_startH S pin e0 hl r x1
  refine wpAny_mono (ht.nox.run [] s1 (L2.start N vs) H _ I hq) (fun fl s' hs => ?_) fun e s' hs => hs
  match fl, hs with
  | .ret u, ⟨v, _, H', J, rv, z⟩ => exact ⟨v, H', J.os, J.bare, J.base, J.hok, rv, z⟩
  | .next, ⟨_, H', J, z⟩ => exact ⟨V.non, H', J.os, J.bare, J.base, J.hok, rfl, z⟩
  | .brk, ⟨_, _, _, z⟩ => exact z.elim
  | .cont, ⟨_, _, _, z⟩ => exact z.elim
end
section
variable {X : Cx} {CX : CXT} {k : Nat} {f : Addr} {fd : FuncData} {ps : List Str} {sp : Addr × Obj → Sp} {E : XK} {x : Str} {q pos : Pos} {e : Expr} {es : List Expr} {t : TA} {p : Addr × Obj}
theorem pe_callE (F : FnE X.prog X.w X.K X.mg X.base CX k f fd ps sp) (hr : RoomH k X.A) (hp : p ∈ X.pn) (hg : Gl X x) (hm : X.mg x = some (.ref f)) (hk : PySem.W.keepIn X.K (.ref f) = true) (hb : Binds X.K fd ps []) (hx : Passes CX X E)
    (ha : PA X (e :: es) t) (n1 : (x == ("__debug__" : Str)) = false := by decide) (n2 : starEach (e :: es) X.env = (false, eval e X.env) :: starEach es X.env := by rfl)
    (n3 : (backTo pos (starEach es X.env)).any (·.1) = false := by rfl) : PE X (.Call (.Name x q) (e :: es) [] pos) (tCall (sp p) [] E t) := by
  refine ⟨fun pins s σ H Q I q0 => wpAny_Call_Name_kw (ld_glob I hg hm (PySem.W.callWith_K (h₀ := X.base) I.ok.mod.kin hk (thn (ha.run pos pins s σ H _ I q0) fun us s1 ⟨vs, H1, I1, r, q⟩ => ⟨I1.kIn, ?_⟩) n2 n3) n1)⟩
  have q : sp p (vs ++ []) H1 Q E := q
  rw [List.append_nil] at q
  have l2 : (us ++ []).length = ps.length := by
    rw [List.append_nil]
    exact r.length.symm.trans (F.many _ _ _ _ _ q)
  have b := hb s1 us I1.kIn l2
  rw [List.append_nil] at b
  have P1 := I1.pin p (List.mem_append_left _ hp)
  have pin : PinOk X.stack H1 s1 p := ⟨P1.1, P1.2.1, fun hm => (List.mem_cons.mp (I1.stkSub p.1 hm)).elim P1.2.2.1 P1.2.2.2.1, P1.2.2.2.2⟩
  refine wpAny_call (codeAny_mono (F.runs X.A X.stack s1 H1 ⟨us, []⟩ us vs Q E p hr pin I1.env0 b r q) fun res s' z => ?_)
  match res, z with
  | .error err, z => exact hx pins σ H1 s1 err s' I1 z
  | .ok (.ret u), z => exact I1.after z
  | .ok .next, z => exact z.elim
  | .ok .brk, z => exact z.elim
  | .ok .cont, z => exact z.elim
end
/-! ### e.f of the exception in hand, whatever its class -/
def exFields : List Str := ["code", "given", "at", "path", "name", "word", "layer", "start", "goal", "limit", "line", "subject", "most"]
/-- a class of errors whose fields are its instances' own -/
structure OwnX (K : PySem.W.Frag) (C : Addr) : Prop where
  xf : XfC K C
  no : ∀ f ∈ exFields, PySem.W.findIn K (.ref C) f = some none
def ownXB (K : PySem.W.Frag) (C : Addr) : Bool := xfB K C && exFields.all fun f => decide (PySem.W.findIn K (.ref C) f = some none)
theorem ownX_of {K : PySem.W.Frag} {C : Addr} (h : ownXB K C = true) : OwnX K C := by
  obtain ⟨h1, h2⟩ := Bool.and_eq_true_iff.mp h
  exact ⟨xfB_ok h1, fun f hf => of_decide_eq_true (List.all_eq_true.mp h2 f hf)⟩
def tXp (K : PySem.W.Frag) (p : Addr × Obj) (f : Str) (te : TE) : TE := fun σ H Q => te σ H fun x H1 => x = .ref p.1 ∧ ∃ (C dd : Addr) (fs : List (Str × V)) (v : V), p.2.cls = .ref C ∧ OwnX K C ∧ p.2.dict = some dd ∧ (∃ vs, p.2.data = .fields vs) ∧
  H1 dd = some (.xd fs) ∧ fs.lookup f = some v ∧ Q v H1
theorem pe_xp {X : Cx} {p : Addr × Obj} {e : Expr} {te : TE} {pos : Pos} {n : Str} (hp : p ∈ X.pn) (hn : n ∈ exFields) (he : PE X e te) (hb : attributeBase e n X.env (eval e X.env) = eval e X.env := by rfl) : PE X (.Attribute e n pos) (tXp X.K p n te) := by
  refine ⟨fun pins s σ H Q I h => attr_of hb (thn (he.run pins s σ H _ I h) fun u s1 hh => ?_)⟩
  obtain ⟨x, H1, I1, rx, ex, C, dd, fs, v, ec, T, ed, ⟨vs, hd⟩, ea, l, q⟩ := hh
  subst ex
  obtain rfl : u = Value.ref p.1 := rx
  obtain ⟨ha, _⟩ := I1.pin p (List.mem_append_left _ hp)
  obtain ⟨mA, hns, hr⟩ := (show ObjOk X.prog X.w H1 s1.heap dd (.xd fs) from I1.hok dd _ ea)
  obtain ⟨od, ho, hl⟩ := lookIn_ns hns
  obtain ⟨u, hu, ru⟩ := RelO.some_of (v := v) (o := mA n) (by rw [← l]; exact hr n)
  have J : PySem.W.InstAt s1.heap p.1 p.2 C (some od) := ⟨ha, ec, by unfold PySem.W.notCls; rw [hd] <;> rfl, by rw [ed]; exact ho⟩
  exact HandSPX.exc_get I1.kIn J T.xf.ga T.xf.gg T.xf.exC (PySem.W.findObj_own T.xf.hdC (T.no n hn) rfl (by rw [hl, hu])) (handed_of ru) ⟨v, H1, I1.tok _, ru, q⟩
end VG

set_option maxRecDepth 100000
/-! The fields of the exception in hand, by its code. -/
namespace VG
open PySem PySem.Spec PyProof.Rows L2
theorem same_upd {H : Hp} {a : Addr} {o : HO} (h : H a = none) : Same H (upd H a o) := fun b u e => by rw [upd_ne (ne_of_none e h)]; exact e
/-- nm stands in l, as `in` tells it -/
def eqIn (l : List Str) (nm : Str) : Bool := (l.map PyData.str).any fun z => PyData.eqv z (.str nm)
/-- p is an own error with the code nm and the fields fs -/
structure Caught (K : PySem.W.Frag) (H : Hp) (p : Addr × Obj) (nm : Str) (fs : List (Str × V)) : Prop where
  ex : ∃ (C dd : Addr), p.2.cls = .ref C ∧ OwnX K C ∧ p.2.dict = some dd ∧ (∃ vs, p.2.data = .fields vs) ∧ H dd = some (.xd fs)
  code : fs.lookup ("code" : Str) = some (V.str nm)
  sh : SeqAt.shaped (.str nm) = true
theorem Caught.same {K : PySem.W.Frag} {H H' : Hp} {p : Addr × Obj} {nm : Str} {fs : List (Str × V)} (e : Same H H') (c : Caught K H p nm fs) : Caught K H' p nm fs := by
  obtain ⟨⟨C, dd, h1, h2, h3, h4, h5⟩, h6, h7⟩ := c
  exact ⟨⟨C, dd, h1, h2, h3, h4, e _ _ h5⟩, h6, h7⟩
theorem Caught.get {K : PySem.W.Frag} {H : Hp} {p : Addr × Obj} {nm f : Str} {fs : List (Str × V)} {v : V} {Q : VK} (c : Caught K H p nm fs) (l : fs.lookup f = some v) (q : Q v H) :
    ∃ (C dd : Addr) (fs : List (Str × V)) (v : V), p.2.cls = .ref C ∧ OwnX K C ∧ p.2.dict = some dd ∧ (∃ vs, p.2.data = .fields vs) ∧ H dd = some (.xd fs) ∧ fs.lookup f = some v ∧ Q v H := by
  obtain ⟨⟨C, dd, h1, h2, h3, h4, h5⟩, _, _⟩ := c
  exact ⟨C, dd, fs, v, h1, h2, h3, h4, h5, l, q⟩
theorem strs_all {K : PySem.W.Frag} {H : Hp} : ∀ l : List Str, DpAll K H (l.map V.str) (l.map PyData.str)
  | [] => .nil
  | x :: l => .cons (.str x) (strs_all l)
section
variable {X : Cx} {p : Addr × Obj} {x f : Str} {i j1 j2 j3 : Nat} {l : List Str} {es fes : List Expr} {p1 p2 p3 p4 p5 p6 p7 p8 p9 : Pos}
/-- the fields ns of the exception in hand, in slot i -/
def tFlds (K : PySem.W.Frag) (p : Addr × Obj) (i : Nat) (ns : List Str) : TA := fun σ H Q => σ[i]? = some (some (.ref p.1)) ∧ ∃ (nm : Str) (fs : List (Str × V)) (ys : List V), Caught K H p nm fs ∧ ns.map (fun f => fs.lookup f) = ys.map some ∧ Q ys H
theorem pa_flds0 : PA X [] (tFlds X.K p i []) := by
  refine ⟨fun pos pins s σ H Q I h => ?_⟩
  obtain ⟨_, nm, fs, ys, _, e, q⟩ := h
  have e2 : ys = [] := by
    cases ys with
    | nil => rfl
    | cons y ys => cases e
  subst e2
  exact pa_nil.run pos pins s σ H Q I q
theorem pa_flds {ns : List Str} (hp : p ∈ X.pn) (hv : PE X (.Name x p1) (tVar i)) (hf : f ∈ exFields) (ha : PA X es (tFlds X.K p i ns)) : PA X (.Attribute (.Name x p1) f p2 :: es) (tFlds X.K p i (f :: ns)) := by
  refine ⟨fun pos pins s σ H Q I h => ?_⟩
  obtain ⟨hs, nm, fs, ys, c, e, q⟩ := h
  match ys, e with
  | y :: ys, e =>
    have e1 := List.cons.inj e
    obtain ⟨C, dd, h1, h2, h3, h4, h5⟩ := c.ex
    refine (pa_cons (pe_xp hp hf hv) ha).run pos pins s σ H Q I ?_
    refine ⟨_, hs, rfl, C, dd, fs, _, h1, h2, h3, h4, h5, e1.1, ?_⟩
    exact ⟨hs, nm, fs, ys, c, e1.2, q⟩
theorem small_line {n : Nat} (h : n ≤ 1000) : n ≤ sizeLine := Nat.le_trans h (by decide)
/-- if a test of the code: return the fields ns -/
def tIfRet (K : PySem.W.Frag) (p : Addr × Obj) (i : Nat) (c : Str → Bool) (ns : List Str) : TS := fun D σ H => σ[i]? = some (some (.ref p.1)) ∧ ∃ (nm : Str) (fs : List (Str × V)), Caught K H p nm fs ∧
  (c nm = true → ∃ ys, ns.map (fun f => fs.lookup f) = ys.map some ∧ ∀ T H', Same H H' → SqT K H' T ys → D.rt (.ref T) H') ∧ (c nm = false → ∀ H', Same H H' → D.nx σ H')
theorem flds_end {K : PySem.W.Frag} {σ : L2.St} {H H1 : Hp} {ns : List Str} {nm : Str} {fs : List (Str × V)} {R : VK} (hl : ns.length ≤ 1000) (hs : σ[i]? = some (some (.ref p.1))) (sm : Same H H1) (c : Caught K H p nm fs)
    (h : ∃ ys, ns.map (fun f => fs.lookup f) = ys.map some ∧ ∀ T H', Same H H' → SqT K H' T ys → R (.ref T) H') : tTup (tFlds K p i ns) σ H1 R := by
  obtain ⟨ys, e, k⟩ := h
  have hz : ys.length = ns.length := by
    have z := congrArg List.length e
    rw [List.length_map, List.length_map] at z
    exact z.symm
  exact ⟨hs, nm, fs, ys, c.same sm, e, small_line (by omega), fun T hT => k T _ (sm.trans (same_upd hT)) (SqT.of upd_same)⟩
theorem ps_inRet {ns : List Str} (hp : p ∈ X.pn) (hu : X.A.units + 65 < cLine) (hl : l.length ≤ 1000) (hn : ns.length ≤ 1000) (sh : SeqAt.shaped (.tuple (l.map PyData.str)) = true) (hv : PE X (.Name x p1) (tVar i))
    (ha : PA X es (fun _ H Q => Q (l.map V.str) H)) (he : PA X fes (tFlds X.K p i ns)) :
    PS X (.If (.Compare (.Attribute (.Name x p1) "code" p3) [.In] [.Tuple es j1 p4] p5) [.Return (some (.Tuple fes j2 p7)) p8] [] p9) (tIfRet X.K p i (eqIn l) ns) := by
  refine ⟨fun pins s σ H D I h => (ps_if (pt_cmpR (op_inT hu) (pe_xp hp (by decide) hv) (pe_tup ha) rfl) (pss_one (ps_ret (pe_tup he))) pss_nil).run pins s σ H D I ?_⟩
  obtain ⟨hs, nm, fs, c, hy, hn⟩ := h
  have hz : (l.map V.str).length ≤ sizeLine := by rw [List.length_map]; exact small_line hl
  refine ⟨_, hs, rfl, c.get c.code ⟨hz, fun T hT => ?_⟩⟩
  have sm := same_upd (o := .tup (l.map V.str)) hT
  refine ⟨.str nm, l.map PyData.str, .str nm, .tup (SqT.of upd_same) (strs_all l), c.sh, sh, eqIn l nm, rfl, ?_⟩
  cases e : eqIn l nm with
  | true => exact iteT (flds_end (by assumption) hs sm c (hy e))
  | false => exact iteF (hn e _ sm)
theorem ps_eqRet {ns : List Str} {z : Str} (hp : p ∈ X.pn) (hn : ns.length ≤ 1000) (hv : PE X (.Name x p1) (tVar i)) (he : PA X fes (tFlds X.K p i ns)) :
    PS X (.If (.Compare (.Attribute (.Name x p1) "code" p3) [.Eq] [.Constant (.str z) j1 p4] p5) [.Return (some (.Tuple fes j2 p7)) p8] [] p9) (tIfRet X.K p i (fun nm => decide (nm = z)) ns) := by
  refine ⟨fun pins s σ H D I h => (ps_if (pt_cmpR op_eq (pe_xp hp (by decide) hv) pe_str rfl) (pss_one (ps_ret (pe_tup he))) pss_nil).run pins s σ H D I ?_⟩
  obtain ⟨hs, nm, fs, c, hy, hn⟩ := h
  obtain ⟨C, dd, h1, h2, h3, h4, h5⟩ := c.ex
  refine ⟨_, hs, rfl, C, dd, fs, _, h1, h2, h3, h4, h5, c.code, ?_⟩
  refine ⟨rfl, decide (nm = z), congrArg V.bl ?_, ?_⟩
  · by_cases y : nm = z
    · subst y
      rw [decide_eq_true rfl, decide_eq_true rfl]
    · rw [decide_eq_false y, decide_eq_false fun q => y (V.str.inj q)]
  cases e : decide (nm = z) with
  | true => exact iteT (flds_end (by assumption) hs (Same.refl H) c (hy e))
  | false => exact iteF (hn e _ (Same.refl H))
/-- return the fields ns if the code is z else () -/
def tEndRet (K : PySem.W.Frag) (p : Addr × Obj) (i : Nat) (z : Str) (ns : List Str) : TS := fun D σ H => σ[i]? = some (some (.ref p.1)) ∧ ∃ (nm : Str) (fs : List (Str × V)), Caught K H p nm fs ∧
  ∃ ys, (if decide (nm = z) = true then ns else []).map (fun f => fs.lookup f) = ys.map some ∧ ∀ T H', Same H H' → SqT K H' T ys → D.rt (.ref T) H'
theorem ps_endRet {ns : List Str} {z : Str} (hp : p ∈ X.pn) (hn : ns.length ≤ 1000) (hv : PE X (.Name x p1) (tVar i)) (he : PA X fes (tFlds X.K p i ns)) :
    PS X (.Return (some (.IfExp (.Compare (.Attribute (.Name x p1) "code" p3) [.Eq] [.Constant (.str z) j1 p4] p5) (.Tuple fes j2 p7) (.Tuple [] j3 p2) p6)) p8) (tEndRet X.K p i z ns) := by
  refine ⟨fun pins s σ H D I h => (ps_ret (pe_ifExp (pt_cmpR op_eq (pe_xp hp (by decide) hv) pe_str rfl) (pe_tup he) (pe_tup (pa_flds0 (p := p) (i := i))))).run pins s σ H D I ?_⟩
  obtain ⟨hs, nm, fs, c, h⟩ := h
  obtain ⟨C, dd, h1, h2, h3, h4, h5⟩ := c.ex
  refine ⟨_, hs, rfl, C, dd, fs, _, h1, h2, h3, h4, h5, c.code, ?_⟩
  refine ⟨rfl, decide (nm = z), congrArg V.bl ?_, ?_⟩
  · by_cases y : nm = z
    · subst y
      rw [decide_eq_true rfl, decide_eq_true rfl]
    · rw [decide_eq_false y, decide_eq_false fun q => y (V.str.inj q)]
  cases e : decide (nm = z) with
  | true =>
    rw [e, if_pos rfl] at h
    exact iteT (flds_end (by assumption) hs (Same.refl H) c h)
  | false =>
    rw [e, if_neg Bool.false_ne_true] at h
    exact iteF (flds_end (by decide) hs (Same.refl H) c h)
end
end VG

set_option maxRecDepth 100000
/-! ask(lambda: ..): ('', what it gives), or (code,) + the fields of the error that it raises. -/
namespace VG
open PySem PySem.Spec PyProof.Rows L2 LamX
open L2H (RoomH roomH_of)
/-- the fields of an error with the code nm, as the law tells them -/
def fieldsOf (nm : Str) : List Str :=
  if eqIn ["InvalidRatio", "InvalidNumber", "InvalidName", "InvalidLayer", "InvalidPlace", "InvalidPoint", "InvalidForm", "InvalidLimit"] nm = true then ["given"]
  else if eqIn ["InvalidRow", "InvalidFact", "InvalidCommand"] nm = true then ["at"]
  else if eqIn ["InvalidStep", "UnlikeEnds"] nm = true then ["path"]
  else if eqIn ["DuplicateName", "UnknownName"] nm = true then ["name"]
  else if eqIn ["InvalidText", "UnknownScript"] nm = true then ["word"]
  else if decide (nm = "InvalidTable") = true then ["layer"]
  else if decide (nm = "InvalidWay") = true then ["layer", "start", "goal"]
  else if decide (nm = "Full") = true then ["limit"]
  else if decide (nm = "InvalidPage") = true then ["line"]
  else if decide (nm = "TooMany") = true then ["subject", "most"] else []
/-- the fields of the error p: of its code's names, in a tuple -/
def spFields (K : PySem.W.Frag) : Addr × Obj → Sp := fun p vs H Q _ => vs = [.ref p.1] ∧ ∃ (nm : Str) (fs : List (Str × V)) (ys : List V), Caught K H p nm fs ∧ (fieldsOf nm).map (fun f => fs.lookup f) = ys.map some ∧ ∀ T H', Same H H' → SqT K H' T ys → Q (.ref T) H'
/-- an own error of class cls, its dict d -/
structure Err (K : PySem.W.Frag) (H : Hp) (cls : Value) (d : Option Addr) (nm : Str) (fs : List (Str × V)) : Prop where
  ex : ∃ (C dd : Addr), cls = .ref C ∧ OwnX K C ∧ d = some dd ∧ H dd = some (.xd fs)
  code : fs.lookup ("code" : Str) = some (V.str nm)
  sh : SeqAt.shaped (.str nm) = true
theorem Err.caught {K : PySem.W.Frag} {H : Hp} {cls : Value} {d : Option Addr} {nm : Str} {fs : List (Str × V)} {a : Addr} {oe : Obj} (e : Err K H cls d nm fs) (hz : Zc cls d oe) (hf : ∃ vs, oe.data = .fields vs) : Caught K H (a, oe) nm fs := by
  obtain ⟨⟨C, dd, h1, h2, h3, h4⟩, h5, h6⟩ := e
  exact ⟨⟨C, dd, hz.1.trans h1, h2, hz.2.trans h3, hf, h4⟩, h5, h6⟩
/-- what ask wishes of an error of the body, cs the classes that it catches -/
def askX (K : PySem.W.Frag) (cs : List Value) (Q : VK) : XK := fun cls d H => PySem.W.exmAny K cls cs = some true ∧ ∃ (nm : Str) (fs : List (Str × V)) (ys : List V), Err K H cls d nm fs ∧ (fieldsOf nm).map (fun f => fs.lookup f) = ys.map some ∧ ys.length ≤ 1000 ∧
  ∀ T H', Same H H' → SqT K H' T (.str nm :: ys) → Q (.ref T) H'
def askQ (Q : VK) : VK := fun x H1 => [V.str "", x].length ≤ sizeLine ∧ ∀ T, H1 T = none → Q (.ref T) (upd H1 T (.tup [.str "", x]))
def TAsk (K : PySem.W.Frag) (cs : List Value) : (XK → Hp → VK → Prop) → Hp → VK → Prop := fun tl H Q => tl (askX K cs Q) H (askQ Q)
section
variable {X : Cx}
/-- the suite: return (e.code,) + fields(e) -/
def tSuite (K : PySem.W.Frag) (i : Nat) : Addr → Value → Option Addr → TS := fun a cls d D σ H => σ[i]? = some (some (.ref a)) ∧ ∃ (nm : Str) (fs : List (Str × V)) (ys : List V), Err K H cls d nm fs ∧ (fieldsOf nm).map (fun f => fs.lookup f) = ys.map some ∧ ys.length ≤ 1000 ∧
  ∀ T H', Same H H' → SqT K H' T (.str nm :: ys) → D.rt (.ref T) H'
theorem ps_suite {a : Addr} {oe : Obj} {cls : Value} {d : Option Addr} {pn : List (Addr × Obj)} {i k : Nat} {e x : Str} {f : Addr} {fd : FuncData} {ps : List Str} {p1 p2 p3 p4 p5 p6 p7 p8 : Pos} {j : Nat}
    (F : FnE X.prog X.w X.K X.mg X.base CX0 k f fd ps (spFields X.K)) (hr : RoomH k X.A) (hg : (X.suite a ((a, oe) :: pn)).env.scope.names.lookup x = some .globalImplicit) (hm : X.mg x = some (.ref f)) (hk : PySem.W.keepIn X.K (.ref f) = true) (hb : L2.Binds X.K fd ps [])
    (hz : Zc cls d oe) (hf : ∃ vs, oe.data = .fields vs) (hv : ∀ p, PE (X.suite a ((a, oe) :: pn)) (.Name e p) (tVar i)) (n1 : (x == ("__debug__" : Str)) = false) :
    PS (X.suite a ((a, oe) :: pn)) (.Return (some (.BinOp (.Tuple [.Attribute (.Name e p1) "code" p2] j p3) .Add (.Call (.Name x p4) [.Name e p5] [] p6) p7)) p8) (tSuite X.K i a cls d) := by
  have hp : (a, oe) ∈ (X.suite a ((a, oe) :: pn)).pn := List.mem_cons_self
  refine ⟨fun pins s σ H D I h => (ps_ret (pe_op op_catT (pe_tup (pa_cons (pe_xp hp (by decide) (hv p1)) pa_nil)) (pe_callE (E := fun _ _ _ => False) (X := X.suite a ((a, oe) :: pn)) F ⟨hr.dp, hr.un⟩ hp hg hm hk hb (fun _ _ _ _ _ _ _ h => h.elim) (pa_cons (hv p5) pa_nil) n1))).run pins s σ H D I ?_⟩
  obtain ⟨hs, nm, fs, ys, er, el, hy, q⟩ := h
  have c := er.caught (a := a) hz hf
  obtain ⟨C, dd, h1, h2, h3, h4, h5⟩ := c.ex
  refine ⟨_, hs, rfl, C, dd, fs, _, h1, h2, h3, h4, h5, c.code, small_line (by show 1 ≤ 1000; decide), fun T hT => ?_⟩
  have sm := same_upd (o := .tup [.str nm]) hT
  refine ⟨_, hs, rfl, nm, fs, ys, c.same sm, el, fun T2 H2 sm2 ht => ?_⟩
  have st : SqT X.K H2 T [.str nm] := Same.tup sm2 (SqT.of upd_same)
  refine ⟨T, T2, [.str nm], ys, rfl, rfl, st, ht, List.cons_ne_nil _ _, Nat.le_trans (Nat.add_le_add_left hy 1) (by decide), fun e => ?_, fun _ T3 hT3 => ?_⟩
  · subst e
    exact q T H2 (sm.trans sm2) st
  · exact q T3 _ ((sm.trans sm2).trans (same_upd hT3)) (SqT.of upd_same)
theorem exm_imp {K : PySem.W.Frag} {cls : Value} {cs : List Value} {Q : VK} {d : Option Addr} {H : Hp} (h : askX K cs Q cls d H) : PySem.W.exmAny K cls cs = some true := h.1
theorem ask_gives {Ng : List Str} {x a e y q xA xB xC : Str} {sg : Scope} {g f : Addr} {fd : FuncData} {ps : List Str} {cA cB cC cdg : Value} {j1 j2 j3 j4 k : Nat} {p1 p2 p3 p4 p5 p6 p7 p8 p9 p10 p11 p12 p13 p14 p15 p16 p17 p18 p19 : Pos}
    (F : FnE X.prog X.w X.K X.mg X.base CX0 k f fd ps (spFields X.K)) (hr : Room (k + 1) X.A) (nd : Ng.Nodup) (h1 : Ng[1]? = some e) (hl : sg.names.lookup e = some .local)
    (gA : sg.names.lookup xA = some .globalImplicit) (gB : sg.names.lookup xB = some .globalImplicit) (gC : sg.names.lookup xC = some .globalImplicit) (gy : sg.names.lookup y = some .globalImplicit)
    (mA : X.mg xA = some cA) (mB : X.mg xB = some cB) (mC : X.mg xC = some cC) (my : X.mg y = some (.ref f)) (hk : PySem.W.keepIn X.K (.ref f) = true) (hb : L2.Binds X.K fd ps [])
    (dA : (xA == ("__debug__" : Str)) = false) (dB : (xB == ("__debug__" : Str)) = false) (dC : (xC == ("__debug__" : Str)) = false) (dy : (y == ("__debug__" : Str)) = false) (de : (e == ("__debug__" : Str)) = false) (dc : (e == ("__classdict__" : Str)) = false)
    (h0 : ∀ f : Addr, (L2.start Ng [V.ref f])[0]? = some (some (V.ref f))) (h2 : 1 < Ng.length) :
    GivesTo X Ng x sg g cdg [.Try [.Return (some (.Tuple [.Constant (.str "") j1 p1, .Call (.Name a p2) [] [] p3] j2 p4)) p5]
      [.ExceptHandler (some (.Tuple [.Name xA p6, .Name xB p7, .Name xC p8] j3 p9)) (some e) [.Return (some (.BinOp (.Tuple [.Attribute (.Name e p10) "code" p11] j4 p12) .Add (.Call (.Name y p13) [.Name e p14] [] p15) p16)) p17] p18] [] [] p19] a q (TAsk X.K [cA, cB, cC]) := by
  intro f' c' s H Q tl act hc h
  have room : RoomH k (cxOf C8.CX0 X.prog X.w X.K X.mg X.base Ng x sg g cdg X.A X.stack s H C8.E0).nox.A := roomH_of (hr.deeper _)
  refine ⟨_, pss_one (ps_try_as3 (X := (cxOf C8.CX0 X.prog X.w X.K X.mg X.base Ng x sg g cdg X.A X.stack s H C8.E0).nox) (c1 := cA) (c2 := cB) (c3 := cC) (i := 1)
      (tb := fun W D σ H => ∃ Ech : XK, (∀ cls d σ' H', Ech cls d H' → W cls d σ' H') ∧ σ[0]? = some (some (.ref f')) ∧ H c' = some (CodeO c' q) ∧ tl Ech H (askQ D.rt))
      (ts := tSuite X.K 1) rfl rfl nd h1 hl ⟨gA, dA, .inl mA⟩ ⟨gB, dB, .inl mB⟩ ⟨gC, dC, .inl mC⟩ (fun W pn xe tk _ => ?_) (fun b oe cls d pn hz hf => ?_)), ?_⟩
  · refine ⟨fun pins s' σ H' D I h' => ?_⟩
    obtain ⟨Ech, hW, e1, e2, e3⟩ := h'
    have hp := act W pn xe Ech p2 p3 tk hW
    have hq := pss_one (st := .Return (some (.Tuple [.Constant (.str "") j1 p1, .Call (.Name a p2) [] [] p3] j2 p4)) p5) (ps_ret (pe_tup (pa_cons pe_str (pa_cons hp pa_nil))))
    exact hq.run pins s' σ H' D I ⟨e1, e2, e3⟩
  · refine pss_one (ps_suite F room ?_ my hk hb hz hf (fun p => pe_var h1 (.inl hl) de dc) dy)
    exact gy
  · refine ⟨askX X.K [cA, cB, cC] Q, fun cls d σ' H' z => ?_, h0 f', hc, h⟩
    obtain ⟨z1, nm, fs, ys, z2, z3, z4, z5⟩ := z
    refine ⟨z1, fun b hb hn => ⟨?_, nm, fs, ys, z2, z3, z4, z5⟩⟩
    have hn : σ'.length = Ng.length := hn
    rw [List.getElem?_set_self (by omega)]
end
end VG

set_option maxRecDepth 100000
/-! A lambda with one parameter that bears a default, handed to a def that calls it without arguments. -/
namespace VG
open PySem PySem.Spec PyProof.Rows L2 LamX
/-! ### its function object -/
abbrev dlFn (qual : Str) (params : Arguments) (body : Expr) (scope : Scope) (cl : List (Str × Addr)) (pm cdv ctv dv : Value) : FuncData := { PySem.W.kla_fn "<lambda>" qual params body scope cl pm cdv ctv with defaults := dv }
abbrev dlObj (qual : Str) (params : Arguments) (body : Expr) (scope : Scope) (cl : List (Str × Addr)) (pm cdv ctv dv : Value) : Obj := { cls := .type "function", data := .func (dlFn qual params body scope cl pm cdv ctv dv) }
abbrev oneTup (u : Value) : Obj := { cls := .type "tuple", data := .seq [u].toArray }
section
variable {M : Model} {A : Around} {E : Value → Shared → Prop} {s : Shared} {Q : Value → Shared → Prop}
/-- the closure's tuple, if there is one -/
theorem clo_tup {clos : List (Str × Addr)} {k : Value → Sem Value} (h : ∀ (ctv : Value) (h1 : Heap), (∀ b o, s.heap.get? b = some o → h1.get? b = some o) → s.heap.objs.size ≤ h1.objs.size → wpAny M A (k ctv) Q E { s with heap := h1 }) :
    wpAny M A (do
      let t ← if clos.isEmpty then pure .none else newTextTuple ((clos.mergeSort fun a b => a.1.cps.toList ≤ b.1.cps.toList).map (.ref ·.2))
      k t) Q E s := by
  match clos with
  | [] => exact wpAny_bind (wpAny_pure (h .none s.heap (fun _ _ e => e) (Nat.le_refl _)))
  | q :: r =>
    refine wpAny_bind (wpAny_newTextTuple (h _ _ (fun b o e => Heap.get?_push_of_some _ e) ?_))
    rw [Heap.size_push]
    omega
variable {qual : Str} {params : Arguments} {body : Expr} {scope : Scope} {env : Env} {c P : Addr} {ps : Array Value} {pos : Pos} {line : Nat} {mg : Str → Option Value} {clos : List (Str × Addr)} {dv : Value}
/-- it is made: its code object stands in the table -/
theorem dl_hit {cv : Value} (hcl : closureFor scope env = pure clos) (eg : env.globals = mainGlobals) (gm : s.heap.Ns mainGlobals mg) (ec : env.code = .ref c) (C : PySem.W.CodeHd s.heap c P) (tab : s.heap.get? P = some { cls := .none, data := .fields ps }) (ok : TriplesOk ps.toList)
    (hit : codeAmong pos ps.toList = some cv) (bl : s.heap.BuiltinsAt mg P)
    (h : ∀ (ctv : Value) (h1 : Heap) (tk : Tok), (∀ b o, s.heap.get? b = some o → h1.get? b = some o) → s.heap.objs.size ≤ h1.objs.size →
      Q (.ref h1.objs.size) { s with heap := h1.push (dlObj qual params body scope clos ((mg "__name__").getD .none) cv ctv dv), toks := tk }) :
    wpAny M A (makeTail "<lambda>" qual params (.expr body) scope env dv .none none pos line) Q E s := by
  obtain ⟨bm, ob, y1, y2, _, _, y5, y6, y7, y8⟩ := bl
  unfold makeTail
  rw [hcl, eg]
  refine wpAny_bind (wpAny_pure (clo_tup fun ctv h1 kp sz => ?_))
  refine wpAny_bind (wpAny_functionCode_hit ec ((C.keeps kp).code (kp _ _ tab) ok) hit ?_)
  refine wpAny_bind (wpAny_builtinsFor (gm.keeps kp) y1 y2 (kp _ _ y5) y6 y7 y8 ?_)
  exact wpAny_bind (wpAny_nsGet (gm.keeps kp) (wpAny_bind (wpAny_pure (wpAny_newObj_type (h ctv h1 s.toks kp sz) (by size_fits)))))
/-- it is made: its code object is new -/
theorem dl_new (hcl : closureFor scope env = pure clos) (eg : env.globals = mainGlobals) (gm : s.heap.Ns mainGlobals mg) (ec : env.code = .ref c) (C : PySem.W.CodeHd s.heap c P) (tab : s.heap.get? P = some { cls := .none, data := .fields ps }) (ok : TriplesOk ps.toList)
    (miss : codeAmong pos ps.toList = none) (gP : mainGlobals ≠ P) (bl : s.heap.BuiltinsAt mg P)
    (h : ∀ (c' : Addr) (ctv : Value) (h1 : Heap) (tk : Tok), Heap.ExtBut P s.heap h1 → s.heap.objs.size ≤ c' → c' < h1.objs.size → h1.CodeRec (.ref c') qual → h1.get? P = some { cls := .none, data := .fields (ps ++ #[rawInt pos.line, rawInt pos.col, .ref c']) } →
      Q (.ref h1.objs.size) { s with heap := h1.push (dlObj qual params body scope clos ((mg "__name__").getD .none) (.ref c') ctv dv), toks := tk }) :
    wpAny M A (makeTail "<lambda>" qual params (.expr body) scope env dv .none none pos line) Q E s := by
  obtain ⟨bm, ob, y1, y2, _, y4, y5, y6, y7, y8⟩ := bl
  unfold makeTail
  rw [hcl, eg]
  refine wpAny_bind (wpAny_pure (clo_tup fun ctv h1 kp sz => ?_))
  refine wpAny_bind (wpAny_functionCodeX ec ((C.keeps kp).code (kp _ _ tab) ok) ((C.keeps kp).tab (kp _ _ tab)) miss fun c' h2 tk ext ge lt _ rec there _ => ?_)
  have gm2 := (gm.keeps kp).extBut ext gP
  refine wpAny_bind (wpAny_builtinsFor gm2 y1 y2 (ext _ _ y4 (kp _ _ y5)) y6 y7 y8 ?_)
  refine wpAny_bind (wpAny_nsGet gm2 (wpAny_bind (wpAny_pure (wpAny_newObj_type (h c' ctv h2 tk (fun b o n e => ext b o n (kp b o e)) (Nat.le_trans sz ge) lt rec there.2) (by size_fits)))))
end
/-! ### made, in the layer -/
section
variable {X : Cx} {pins : List (Addr × Obj)} {σ : L2.St} {H : Hp} {s : Shared}
/-- an object that nothing tracks and no frame is -/
structure Loose (X : Cx) (H : Hp) (s : Shared) (a : Addr) (o : Obj) : Prop where
  get : s.heap.get? a = some o
  free : H a = none
  nofr : a ∉ frs X.stack
theorem new_nofr (I : Inv X pins σ H s) {a : Addr} (h : s.heap.objs.size ≤ a) : a ∉ frs X.stack := fun z => by
  rcases List.mem_cons.mp (I.stkSub _ z) with e | e
  · have h1 := I.lt
    rw [← e] at h1
    exact Nat.lt_irrefl _ (Nat.lt_of_lt_of_le h1 h)
  · exact I.nofs h e
/-- ps's tables and all else, a new code object in one of them -/
theorem tabs_new {T : List (Addr × Str)} {P c' : Addr} {q : Str} {ps : Array Value} {p0 : Pos} (hT : Tabs T H) (hP : H P = some (.tbl ps)) (ok : TriplesOk ps.toList) (at' : ∀ (pos : Pos) (cv : Value), codeAmong pos ps.toList = some cv → ∃ c, cv = .ref c ∧ H c = some (CodeO c q))
    (nC : H c' = none) (hu : ∀ p ∈ T, p.1 = P → p.2 = q) :
    ExtN H (upd (upd H P (.tbl (ps ++ #[rawInt p0.line, rawInt p0.col, .ref c']))) c' (CodeO c' q)) ∧ Tabs T (upd (upd H P (.tbl (ps ++ #[rawInt p0.line, rawInt p0.col, .ref c']))) c' (CodeO c' q)) := by
  have e1 : ExtN H (upd (upd H P (.tbl (ps ++ #[rawInt p0.line, rawInt p0.col, .ref c']))) c' (CodeO c' q)) := fun b o e n => by
    have nP : b ≠ P := fun z => by
      rw [z, hP] at e
      exact n ps (Option.some.inj e).symm
    rw [upd_ne (ne_of_none e nC), upd_ne nP]
    exact e
  have el : (ps ++ #[rawInt p0.line, rawInt p0.col, .ref c']).toList = ps.toList ++ [rawInt p0.line, rawInt p0.col, .ref c'] := by simp
  refine ⟨e1, fun p hp => ?_⟩
  by_cases hb : p.1 = P
  · rw [hu p hp hb, hb]
    refine ⟨_, by rw [upd_ne (ne_of_none hP nC), upd_same], by rw [el]; exact PySem.TriplesOk_snoc _ _ _ _ ok, fun p' cv hcv => ?_⟩
    rw [el] at hcv
    rcases among_app _ ok hcv with z | z
    · obtain ⟨c0, z1, z2⟩ := at' p' cv z
      exact ⟨c0, z1, e1 _ _ z2 codeO_ne⟩
    · exact ⟨c', z, upd_same⟩
  · obtain ⟨qs, a1, a2, a3⟩ := hT p hp
    refine ⟨qs, by rw [upd_ne (ne_of_none a1 nC), upd_ne hb]; exact a1, a2, fun p' cv hcv => ?_⟩
    obtain ⟨c0, z1, z2⟩ := a3 p' cv hcv
    exact ⟨c0, z1, e1 _ _ z2 codeO_ne⟩
/-- lambda a=z: body, evaluated -/
theorem dl_make {T : List (Addr × Str)} {c P : Addr} {params : Arguments} {body : Expr} {scope : Scope} {pos p0 : Pos} {z : Int} {j : Nat} {E : Value → Shared → Prop} {Q : Value → Shared → Prop} (I : Inv X pins σ H s) (TB : TabB X.base X.mg c P) (hcode : X.env.code = .ref c)
    (hm : (P, X.env.qual ++ "<lambda>") ∈ T) (hu : ∀ p ∈ T, p.1 = P → p.2 = X.env.qual ++ "<lambda>") (hT : Tabs T H) (hdef : defaultsOf params X.env = ([eval (.Constant (.int z) j p0) X.env], [])) (hkw : params.kwonlyargs = [])
    (hfree : ∀ y ∈ scope.names, y.2 = .free → ∃ c, X.env.cells.lookup y.1 = some c) (hE : ∀ e s', X.xe e s' → E e s')
    (h : ∀ (f D c' : Addr) (pm ctv u : Value) (H1 : Hp) (s' : Shared), Inv X pins σ H1 s' → ExtN H H1 → Tabs T H1 → RelV (.int z) u → Loose X H1 s' D (oneTup u) →
      Loose X H1 s' f (dlObj (X.env.qual ++ "<lambda>") params body scope (cloFrom X.env.cells scope.names []) pm (.ref c') ctv (.ref D)) → H1 c' = some (CodeO c' (X.env.qual ++ "<lambda>")) → Q (.ref f) s') :
    wpAny (model X.prog X.w) X.A (eval (.Lambda params body scope pos) X.env) Q E s := by
  rw [arm_eval_Lambda, hdef]
  show wpAny (model X.prog X.w) X.A (do let dv ← evalAll [eval (.Constant (.int z) j p0) X.env]; let kdv ← holding dv (evalAllOpt []); makeFunction "<lambda>" (X.env.qual ++ "<lambda>") params (.expr body) scope X.env dv kdv [] pos pos.line) Q E s
  refine wpAny_bind ?_
  show wpAny (model X.prog X.w) X.A (do let v ← eval (.Constant (.int z) j p0) X.env; return v :: (← holding [v] (evalAll []))) _ E s
  refine wpAny_bind (wpAny_mono ((pe_int (X := X)).run pins s σ H (fun v H1 => v = .int z ∧ H1 = H) I ⟨rfl, rfl⟩) (fun u s1 hh => ?_) hE)
  obtain ⟨v, H1, I1, rv, ev, eH⟩ := hh
  subst ev
  rw [eH] at I1
  refine wpAny_bind (wpAny_holding (wpAny_pure (wpAny_pure ?_)))
  refine wpAny_bind (wpAny_holding (wpAny_pure ?_))
  rw [makeFunction_eq, hkw]
  simp only [List.zip_nil_left, List.filterMap_nil, List.isEmpty_nil, List.isEmpty_cons, if_true, Bool.false_eq_true, if_false, pure_bind]
  refine wpAny_bind (wpAny_newTextTuple ?_)
  have D0 : s1.heap.objs.size ≤ s1.heap.objs.size := Nat.le_refl _
  have I2 : Inv X pins σ H { s1 with heap := s1.heap.push (oneTup u), toks := s1.toks } := I1.kept fun b o e => Heap.get?_push_of_some _ e
  obtain ⟨ps, hP, ok, at'⟩ := hT _ hm
  have gP : (s1.heap.push (oneTup u)).get? P = some { cls := .none, data := .fields ps } := I2.hok P _ hP
  have bl : (s1.heap.push (oneTup u)).BuiltinsAt X.mg P := TB.bm.keeps I2.bk
  have dGet : (s1.heap.push (oneTup u)).get? s1.heap.objs.size = some (oneTup u) := Heap.get?_push_size _ rfl
  have dFree : H s1.heap.objs.size = none := I1.hok.fresh (Nat.le_refl _)
  have dNofr : s1.heap.objs.size ∉ frs X.stack := new_nofr I1 (Nat.le_refl _)
  have nDP : s1.heap.objs.size ≠ P := fun z => by
    rw [z, hP] at dFree
    cases dFree
  have sz1 : (s1.heap.push (oneTup u)).objs.size = s1.heap.objs.size + 1 := Heap.size_push _ _
  cases e : codeAmong pos ps.toList with
  | some cv =>
    obtain ⟨c', rfl, hco⟩ := at' pos cv e
    refine dl_hit (mg := X.mg) (c := c) (P := P) (ps := ps) (closure_ok hfree) I2.ok.glob (I2.mod.glob.keeps I2.bk) hcode (TB.code.keeps I2.bk) gP ok e bl fun ctv h1 tk kp sz => ?_
    have sz : (s1.heap.push (oneTup u)).objs.size ≤ h1.objs.size := sz
    have kp : ∀ b o, (s1.heap.push (oneTup u)).get? b = some o → h1.get? b = some o := kp
    have I3 : Inv X pins σ H { s1 with heap := h1.push (dlObj (X.env.qual ++ "<lambda>") params body scope (cloFrom X.env.cells scope.names []) ((X.mg "__name__").getD .none) (.ref c') ctv (.ref s1.heap.objs.size)), toks := tk } := I2.kept fun b o q => Heap.get?_push_of_some _ (kp b o q)
    exact h h1.objs.size s1.heap.objs.size c' _ ctv u H _ I3 (ExtN.refl H) hT rv ⟨Heap.get?_push_of_some _ (kp _ _ dGet), dFree, dNofr⟩ ⟨Heap.get?_push_size _ rfl, I1.hok.fresh (by omega), new_nofr I1 (by omega)⟩ hco
  | none =>
    refine dl_new (mg := X.mg) (c := c) (P := P) (ps := ps) (closure_ok hfree) I2.ok.glob (I2.mod.glob.keeps I2.bk) hcode (TB.code.keeps I2.bk) gP ok e TB.gP bl fun c' ctv h1 tk ext ge lt rec tab => ?_
    obtain ⟨c2, oc, vs, t, e2, hoc, hd, hv⟩ := rec
    cases e2
    have ge : (s1.heap.push (oneTup u)).objs.size ≤ c' := ge
    have ext : ∀ b o, b ≠ P → (s1.heap.push (oneTup u)).get? b = some o → h1.get? b = some o := ext
    have nC : H c' = none := I1.hok.fresh (by omega)
    have I3 := inv_table (t' := tk) (more := #[rawInt pos.line, rawInt pos.col, .ref c']) (h' := h1.push (dlObj (X.env.qual ++ "<lambda>") params body scope (cloFrom X.env.cells scope.names []) ((X.mg "__name__").getD .none) (.ref c') ctv (.ref s1.heap.objs.size))) I2 hP
      (fun b o hb q => Heap.get?_push_of_some _ (ext b o hb q)) (Heap.get?_push_of_some _ tab) ge ⟨oc, vs, t, Heap.get?_push_of_some _ hoc, hd, hv⟩
    obtain ⟨x1, x2⟩ := tabs_new (p0 := pos) (c' := c') hT hP ok at' nC hu
    have off : ∀ b, s1.heap.objs.size ≤ b → b ≠ c' → b ≠ P → upd (upd H P (.tbl (ps ++ #[rawInt pos.line, rawInt pos.col, .ref c']))) c' (CodeO c' (X.env.qual ++ "<lambda>")) b = none := fun b hb n1 n2 => by
      rw [upd_ne n1, upd_ne n2]
      exact I1.hok.fresh hb
    have hPlt : @LT.lt Nat _ P s1.heap.objs.size := I1.hok.lt hP
    have lt : @LT.lt Nat _ c' h1.objs.size := lt
    have ge : @LE.le Nat _ (s1.heap.push (oneTup u)).objs.size c' := ge
    have n1 : @Ne Nat s1.heap.objs.size c' := by omega
    have n2 : @LE.le Nat _ s1.heap.objs.size h1.objs.size := by omega
    have n3 : @Ne Nat h1.objs.size c' := by omega
    have n4 : @Ne Nat h1.objs.size P := by omega
    exact h h1.objs.size s1.heap.objs.size c' _ ctv u _ _ I3 x1 x2 rv ⟨Heap.get?_push_of_some _ (ext _ _ nDP dGet), off _ (Nat.le_refl _) n1 nDP, dNofr⟩ ⟨Heap.get?_push_size _ rfl, off _ n2 n3 n4, new_nofr I1 n2⟩ upd_same
end
/-! ### its names, its call -/
/-- one name of its own, a, that the maker doesn't use; captured ones and globals -/
structure LamD (sc scope : Scope) (a : Str) (N : List Str) : Prop where
  kind : scope.kind = .function
  co : scope.isCoroutine = false
  gen : scope.isGenerator = false
  noc : ∀ y ∈ scope.names, y.2 ≠ .cell
  own : ∀ y ∈ scope.names, y.2 = .local → y.1 = a
  par : scope.names.lookup a = some .local
  out : a ∉ N
  free : ∀ y ∈ scope.names, y.2 = .free → sc.names.lookup y.1 = some .cell ∨ sc.names.lookup y.1 = some .free
def lamDB (sc scope : Scope) (a : Str) (N : List Str) : Bool :=
  decide (scope.kind = .function) && (!scope.isCoroutine && (!scope.isGenerator && (decide (scope.names.lookup a = some .local) && (!N.contains a &&
    scope.names.all fun y => !decide (y.2 = .cell) && ((!decide (y.2 = .local) || decide (y.1 = a)) && (!decide (y.2 = .free) || (decide (sc.names.lookup y.1 = some .cell) || decide (sc.names.lookup y.1 = some .free))))))))
theorem lamD_by {sc scope : Scope} {a : Str} {N : List Str} (h : lamDB sc scope a N = true) : LamD sc scope a N := by
  unfold lamDB at h
  simp only [Bool.and_eq_true, Bool.or_eq_true, Bool.not_eq_true', decide_eq_true_eq, decide_eq_false_iff_not, List.all_eq_true] at h
  obtain ⟨h1, h2, h3, h4, h5, h6⟩ := h
  refine ⟨h1, h2, h3, fun y hy => (h6 y hy).1, fun y hy e => (h6 y hy).2.1.resolve_left fun z => z e, h4, fun z => ?_, fun y hy e => (h6 y hy).2.2.resolve_left fun z => z e⟩
  rw [List.contains_iff_mem.mpr z] at h5
  cases h5
theorem LamD.has {X : Cx} {scope : Scope} {a : Str} {N : List Str} (L : LamD X.env.scope scope a N) (ok : X.Ok) : ∀ y ∈ scope.names, y.2 = .free → ∃ c, X.env.cells.lookup y.1 = some c :=
  fun y hy e => ok.has _ ((L.free y hy e).elim (fun k => .inl k) fun k => .inr k)
section
variable {X : Cx} {pins : List (Addr × Obj)} {σ : L2.St} {H HZ : Hp} {s s1 : Shared}
theorem dl_start {A : Around} {outer : List Env} {E : XK} {scope : Scope} {f c' : Addr} {a : Str} {u : Value} {h1 : Heap} {tk : Nat} (I : Inv X pins σ H s) (L : LamD X.env.scope scope a X.N) (e0 : Env0 X.prog X.w X.K X.mg X.base A outer s1 HZ) (hd : A.handled = none)
    (un : Un (frs X.stack) [] H HZ s.heap s1.heap) (hns : h1.Ns s1.heap.objs.size fun y => ([(a, u)] : List (Str × Value)).reverse.lookup y) (kp : ∀ b o, s1.heap.get? b = some o → h1.get? b = some o) :
    Inv (lamCx X A outer s1 HZ E scope f c') [] σ HZ { s1 with heap := h1, toks := tk } := by
  have caught : ∀ {y c}, (cloFrom X.env.cells scope.names []).lookup y = some c → X.env.cells.lookup y = some c := fun {y c} e => by
    rcases cloFrom_mem (PySem.mem_of_lookup e) with hm | ⟨h1, h2⟩
    · cases hm
    · obtain ⟨c1, hc⟩ := L.has I.ok _ h1 rfl
      have hc : X.env.cells.lookup y = some c1 := hc
      rw [hc] at h2
      rw [show c = c1 from h2]
      exact hc
  have looks : ∀ {y}, scope.names.lookup y = some .free → ∃ c, (cloFrom X.env.cells scope.names []).lookup y = some c := fun {y} hl => mem_lookup (cloFrom_has (cells := X.env.cells) (acc := []) (PySem.mem_of_lookup hl))
  have stays : ∀ {c : Addr} {v : Option Value}, H c = none → s.heap.IsCell c v → h1.IsCell c v := fun {c v} n ⟨o, ho, hd⟩ => by
    obtain ⟨sl, q⟩ := un.any ho n (by simp)
    exact ⟨_, kp _ _ q, hd⟩
  have noX : ∀ b : Addr, b ∉ (lamCx X A outer s1 HZ E scope f c').ex := fun b z => absurd (show b ∈ ([] : List Addr) from z) (by simp)
  have okX : (lamCx X A outer s1 HZ E scope f c').Ok := by
    refine ⟨e0.mod, L.kind, rfl, rfl, Nat.le_refl _, fun y z c h1 h2 => I.ok.inj y z c (caught h1) (caught h2), fun y hy => ?_, fun _ _ z _ => Bool.noConfusion (show false = true from z), fun _ => hd, Around.frames_deeper e0.frames, .inr ⟨rfl, rfl⟩, fun b z => absurd z (noX b), e0.bs, e0.bsz, fun b _ _ => noX b,
      fun b z => absurd z (noX b), e0.funs, e0.frf⟩
    have hy : scope.names.lookup y = some .cell ∨ scope.names.lookup y = some .free := hy
    exact hy.elim (fun hy => absurd rfl (L.noc _ (PySem.mem_of_lookup hy))) looks
  refine ⟨okX, rfl, e0.bare, Un.kept kp, ⟨_, hns, fun i y v g1 g2 g3 => ?_⟩, fun y c e => ?_, e0.hok.fresh (Nat.le_refl _), fun y c e => ?_, fun q hq => absurd (show q ∈ ([] : List (Addr × Obj)) ++ [] from hq) (by simp), e0.hok.kept kp, I.len⟩
  · have g3 : Vis scope y := g3
    rcases g3 with k | k | k
    · have e := L.own _ (PySem.mem_of_lookup k) rfl
      have e : y = a := e
      exact absurd (List.mem_of_getElem? g1) (by rw [e]; exact L.out)
    · exact absurd rfl (L.noc _ (PySem.mem_of_lookup k))
    · obtain ⟨m, hn, hl⟩ := I.loc
      have fr := L.free _ (PySem.mem_of_lookup k) rfl
      obtain ⟨w', r, q⟩ := hl i y v g1 g2 (fr.elim (fun k => .inr (.inl k)) fun k => .inr (.inr k))
      obtain ⟨c2, h2⟩ := looks k
      have c1 := caught h2
      refine ⟨w', r, .inr ⟨.inr k, c2, h2, ?_⟩⟩
      rcases q with ⟨kl, _⟩ | ⟨_, c3, e', z⟩
      · have kl : X.env.scope.names.lookup y = some .local := kl
        rcases fr with k2 | k2 <;> rw [show X.env.scope.names.lookup y = _ from k2] at kl <;> cases kl
      · rw [c1] at e'
        cases e'
        exact stays (I.freeC y _ c1) z
  · obtain ⟨w', z⟩ := I.cell y c (caught e)
    exact ⟨w', stays (I.freeC y c (caught e)) z⟩
  · obtain ⟨v, o, ho, hd⟩ := I.cell y c (caught e)
    exact un.free c o ho (I.freeC y c (caught e)) (by simp)
/-- it is called, in the def that got it -/
theorem dl_act {CXg : CXT} {Eg : XK} {Ng : List Str} {qg x : Str} {sg : Scope} {g f D c' : Addr} {cdg pm ctv u : Value} {params : Arguments} {body : Expr} {scope : Scope} {k i : Nat} {a : Str} {pn : List (Addr × Obj)} {xe : Value → Shared → Prop} {W : WX} {E : XK} {tb : TE} {p1 p2 : Pos}
    (I : Inv X pins σ H s) (L : LamD X.env.scope scope a X.N) (hf : Loose X H s f (dlObj (X.env.qual ++ "<lambda>") params body scope (cloFrom X.env.cells scope.names []) pm (.ref c') ctv (.ref D))) (hD : Loose X H s D (oneTup u))
    (hb : ∀ s2 : Shared, s2.heap.get? D = some (oneTup u) → BindsTo s2 (dlFn (X.env.qual ++ "<lambda>") params body scope (cloFrom X.env.cells scope.names []) pm (.ref c') ctv (.ref D)) ⟨[], []⟩ [(a, u)])
    (tk : Takes ((cxOf CXg X.prog X.w X.K X.mg X.base Ng qg sg g cdg X.A X.stack s H Eg).tr pn xe) W) (hW : ∀ cls d σ' H', E cls d H' → W cls d σ' H') (hr : Room (k + 1) (X.A.deeper (envOfC qg sg s.heap.objs.size g cdg)))
    (bodyOk : ∀ (A : Around) (outer : List Env) (s : Shared) (H : Hp), Room k (A.deeper (lamEnv X scope s.heap.objs.size f c')) → PE (lamCx X A outer s H E scope f c') body tb)
    (hN : Ng[i]? = some x) (hv : Vis sg x) (n1 : (x == ("__debug__" : Str)) = false := by decide) (n2 : (x == ("__classdict__" : Str)) = false := by decide) :
    PE ((cxOf CXg X.prog X.w X.K X.mg X.base Ng qg sg g cdg X.A X.stack s H Eg).tr pn xe) (.Call (.Name x p1) [] [] p2)
      (fun σZ HZ Q => σZ[i]? = some (some (.ref f)) ∧ HZ c' = some (CodeO c' (X.env.qual ++ "<lambda>")) ∧ tb σ HZ Q) := by
  refine ⟨fun pinsZ sZ σZ HZ Q IZ ⟨hs, hc, ht⟩ => wpAny_Call_Name_kw (thn ((pe_var (pos := p1) (i := i) hN hv n1 n2).run pinsZ sZ σZ HZ (fun v H1 => v = .ref f ∧ H1 = HZ) IZ ⟨.ref f, hs, rfl, rfl⟩) fun w s1 ⟨v, H1, I1, r1, ev, eH⟩ => ?_)⟩
  subst ev
  rw [eH] at I1
  obtain rfl : w = Value.ref f := r1
  have still : ∀ {b : Addr} {o : Obj}, Loose X H s b o → s1.heap.get? b = some o := fun {b o} l => I1.base.keep b o l.get l.free l.nofr (fun z => nomatch (show b ∈ ([] : List Addr) from z))
  refine PySem.W.callWith_F0 ⟨_, _, _, _, still hf⟩ ?_
  obtain ⟨⟨oc, vs, t, hoc, hdc, hvc⟩, _, _⟩ := I1.hok c' _ hc
  have run : codeAny (model X.prog X.w) (X.A.deeper (envOfC qg sg s.heap.objs.size g cdg)) (.call (.ref f) ⟨[], []⟩) (CR (L2.CX X.prog X.w) (envOfC qg sg s.heap.objs.size g cdg :: X.stack) X.prog X.w HZ s1 Q E) s1 := by
    refine PySem.W.kla_callFunE hr.depth (still hf) rfl L.co L.gen rfl ⟨c', oc, vs, t, rfl, hoc, hdc, hvc⟩ (hb s1 (still hD) _ _ _ _ ?_)
    refine wpAny_newFunctionEnv (fun y hy => L.noc y hy) (fun y hy => ?_) (fun h1 hns hsb => ⟨I1.nolimit.fresh _ hsb, ?_⟩) L.kind
    · obtain rfl := List.mem_singleton.mp hy
      exact L.par
    show codeAny _ _ (.expr body (lamEnv X scope s1.heap.objs.size f c')) _ _
    have kp : ∀ b o, s1.heap.get? b = some o → h1.get? b = some o := fun b o e => hsb.extBut b o (Nat.ne_of_lt (Heap.lt_size e)) (Heap.get?_push_of_some _ e)
    have J : Inv (lamCx X (X.A.deeper (envOfC qg sg s.heap.objs.size g cdg)) (envOfC qg sg s.heap.objs.size g cdg :: X.stack) s1 HZ E scope f c') [] σ HZ { s1 with heap := h1, toks := s1.toks + ([(a, u)] : List (Str × Value)).length } :=
      dl_start I L I1.env0 hr.hd I1.base hns kp
    refine PySem.W.kla_codeExpr (wpAny_mono ((bodyOk _ _ s1 HZ (hr.deeper _)).run [] _ _ HZ Q J ht) (fun v s' hq => ?_) fun _ _ hq => hq)
    obtain ⟨y, H', J', rv, q⟩ := hq
    exact ⟨y, H', J'.os, J'.bare, J'.base, J'.hok, rv, q⟩
  have hx : Passes (L2.CX X.prog X.w) ((cxOf CXg X.prog X.w X.K X.mg X.base Ng qg sg g cdg X.A X.stack s H Eg).tr pn xe) E := passes_call tk hW
  refine wpAny_call (codeAny_mono run fun r s' hq => ?_)
  match r, hq with
  | .error e, hq => exact hx pinsZ σZ HZ s1 e s' I1 hq
  | .ok (.ret u), hq => exact I1.after hq
  | .ok .next, hq => exact hq.elim
  | .ok .brk, hq => exact hq.elim
  | .ok .cont, hq => exact hq.elim
/-- g(lambda a=z: body) -/
theorem pe_dlcall {T : List (Addr × Str)} {TT : (XK → Hp → VK → Prop) → Hp → VK → Prop} {x y a : Str} {g c P : Addr} {k j : Nat} {z : Int} {pg : Arguments} {bg : List Stmt} {sg : Scope} {dV kV doc pm cdv ct oc : Value} {an od : Option Addr} {osl : Array (Option Value)} {Ng : List Str}
    {params : Arguments} {body : Expr} {scope : Scope} {t : XK → TE} {p p0 lpos pos : Pos} (hg : Gl X x) (hm : X.mg x = some (.ref g)) (hk : PySem.W.keepIn X.K (.ref g) = true)
    (lk : X.K.lookup g = some ⟨oc, od, .func (PySem.W.fnOf x x pg bg sg dV kV doc pm an cdv ct), osl⟩) (hcg : PySem.W.codeIn X.K cdv x = true) (hb : L2.Binds X.K (PySem.W.fnOf x x pg bg sg dV kV doc pm an cdv ct) [y] []) (Sg : FnScope Ng [y] sg) (hNg : Ng[0]? = some y) (hva : Vis sg y)
    (hG : GivesTo X Ng x sg g cdv bg y (X.env.qual ++ "<lambda>") TT)
    (TB : TabB X.base X.mg c P) (hcode : X.env.code = .ref c) (hmT : (P, X.env.qual ++ "<lambda>") ∈ T) (hu : ∀ p ∈ T, p.1 = P → p.2 = X.env.qual ++ "<lambda>") (hr : Room (k + 2) X.A) (L : LamD X.env.scope scope a X.N)
    (hdef : defaultsOf params X.env = ([eval (.Constant (.int z) j p0) X.env], [])) (hkw : params.kwonlyargs = [])
    (binds : ∀ (q : Str) (cl : List (Str × Addr)) (pm cv ctv u : Value) (D : Addr) (s2 : Shared), s2.heap.get? D = some (oneTup u) → BindsTo s2 (dlFn q params body scope cl pm cv ctv (.ref D)) ⟨[], []⟩ [(a, u)])
    (bodyOk : ∀ (A : Around) (outer : List Env) (s : Shared) (H : Hp) (E : XK) (f c' : Addr), Room k (A.deeper (lamEnv X scope s.heap.objs.size f c')) → PE (lamCx X A outer s H E scope f c') body (t E))
    (n0 : (x == ("__debug__" : Str)) = false := by decide) (n1 : (y == ("__debug__" : Str)) = false := by decide) (n2 : (y == ("__classdict__" : Str)) = false := by decide) :
    PE X (.Call (.Name x p) [.Lambda params body scope lpos] [] pos) (tLam T TT t) := by
  refine ⟨fun pins s σ H Q I ⟨hT, h⟩ => wpAny_Call_Name_kw (ld_glob I hg hm (PySem.W.callWith_K (h₀ := X.base) I.ok.mod.kin hk ?_ (by rfl) (by rfl)) n0)⟩
  show wpAny _ _ (spliced ((false, eval (.Lambda params body scope lpos) X.env) :: backTo pos (starEach [] X.env))) _ _ s
  refine Calls.spliced_cons (dl_make I TB hcode hmT hu hT hdef hkw (L.has I.ok) (fun _ _ z => z) fun f D c' pm' ctv u H1 s' I1 eN T1 ru hD hf hco => Calls.spliced_nil ⟨I1.kIn, ?_⟩)
  have run : codeAny (model X.prog X.w) X.A (.call (.ref g) ⟨[.ref f], []⟩) (CR C8.CX0 X.stack X.prog X.w H1 s' Q C8.E0) s' := by
    refine run_ofS (N := Ng) (ps := [y]) (us := [.ref f]) (vs := [.ref f]) lk hcg Sg hr I1.env0 (hb s' [.ref f] I1.kIn rfl) (.cons rfl .nil) rfl fun hr' => ?_
    obtain ⟨t', ht', hq'⟩ := hG f c' s' H1 Q (fun E H' Q' => t E σ H' Q') (fun W pn xe E p1 p2 tk hW => dl_act (i := 0) I1 L hf hD (fun s2 q => binds _ _ _ _ _ _ _ s2 q) tk hW hr' (fun A outer s H hr2 => bodyOk A outer s H E f c' hr2) hNg hva n1 n2) hco (h H1 eN T1)
    exact ⟨t', ht'.nox, hq'⟩
  refine wpAny_call (codeAny_mono run fun r s2 hq => ?_)
  match r, hq with
  | .error e, hq => exact (show False from hq).elim
  | .ok (.ret u), hq => exact I1.after hq
  | .ok .next, hq => exact hq.elim
  | .ok .brk, hq => exact hq.elim
  | .ok .cont, hq => exact hq.elim
end
end VG

set_option maxRecDepth 100000
/-! Data: their types, their sizes, data that stand on new addresses alone. -/
namespace VG
open PySem PySem.Spec PyProof.Rows L2
def tyN : PyData → String
  | .none => "NoneType"
  | .bool _ => "bool"
  | .int _ => "int"
  | .str _ => "str"
  | .list _ => "list"
  | .tuple _ => "tuple"
  | .dict _ => "dict"
theorem tyx_list {K : PySem.W.Frag} {H : Hp} {a : Addr} {xs : List V} (h : SqL K H a xs) : TyX K H (.ref a) (.type "list") := by
  rcases h with (h | ⟨o, h⟩) | ⟨o, its, n, h, c, _⟩
  · exact .base (.lst h)
  · exact .base (.frz h)
  · exact .kList h c
theorem tyx_tup {K : PySem.W.Frag} {H : Hp} {a : Addr} {xs : List V} (h : SqT K H a xs) : TyX K H (.ref a) (.type "tuple") := by
  rcases h with (h | ⟨o, h⟩) | ⟨o, its, n, h, c, _⟩
  · exact .base (.tup h)
  · exact .fTuple h
  · exact .kTuple h c
theorem Dp.tyx {K : PySem.W.Frag} {H : Hp} : ∀ {v : V} {d : PyData}, Dp K H v d → TyX K H v (.type (tyN d))
  | _, _, .non => .base .non
  | _, _, .bl b => .base (.bl b)
  | _, _, .int i => .base (.int i)
  | _, _, .str x => .base (.str x)
  | _, _, .lst h _ => tyx_list h
  | _, _, .tup h _ => tyx_tup h
/-- at most n deep, at most 1000 wide -/
def fit : Nat → PyData → Bool
  | _, .none => true
  | _, .bool _ => true
  | _, .int _ => true
  | _, .str _ => true
  | n + 1, .list ds => decide (ds.length ≤ 1000) && ds.all (fit n)
  | n + 1, .tuple ds => decide (ds.length ≤ 1000) && ds.all (fit n)
  | _, _ => false
/-- what H' has more than H -/
def newer (H H' : Hp) : Hp := fun b => match H b with | none => H' b | some _ => none
theorem newer_at {H H' : Hp} {b : Addr} (h : H b = none) : newer H H' b = H' b := by unfold newer; rw [h]
theorem newer_none {H H' : Hp} {b : Addr} {o : HO} (h : H b = some o) : newer H H' b = none := by unfold newer; rw [h]
theorem newer_sub {H H' : Hp} : Same (newer H H') H' := fun b o e => by
  cases h : H b with
  | none => rw [newer_at h] at e; exact e
  | some u => rw [newer_none h] at e; cases e
/-- fewer were there ahead, more stand now -/
theorem newer_mono {H G H' G' : Hp} (h : ∀ b, H b = none → G b = none) (s : ∀ b, G b = none → ∀ o, H' b = some o → G' b = some o) : Same (newer H H') (newer G G') := fun b o e => by
  cases z : H b with
  | none =>
    rw [newer_at z] at e
    rw [newer_at (h b z)]
    exact s b (h b z) o e
  | some u =>
    rw [newer_none z] at e
    cases e
theorem DpAll.at' {K : PySem.W.Frag} {H : Hp} : ∀ {xs : List V} {ds : List PyData} {i : Nat} {x : V}, DpAll K H xs ds → xs[i]? = some x → ∃ d, ds[i]? = some d ∧ Dp K H x d
  | _, _, 0, _, .cons h _, e => by
    cases e
    exact ⟨_, rfl, h⟩
  | _, _, i + 1, _, .cons _ t, e => DpAll.at' (i := i) t e
theorem DpAll.len {K : PySem.W.Frag} {H : Hp} : ∀ {xs : List V} {ds : List PyData}, DpAll K H xs ds → xs.length = ds.length
  | _, _, .nil => rfl
  | _, _, .cons _ t => congrArg (· + 1) (DpAll.len t)
theorem DpAll.snoc {K : PySem.W.Frag} {H : Hp} {y : V} {d : PyData} (h : Dp K H y d) : ∀ {xs : List V} {ds : List PyData}, DpAll K H xs ds → DpAll K H (xs ++ [y]) (ds ++ [d])
  | _, _, .nil => .cons h .nil
  | _, _, .cons g t => .cons g (DpAll.snoc h t)
/-- while a list of copies grows at D: what is there -/
structure Copying (K : PySem.W.Frag) (H : Hp) (D : Addr) (ds : List PyData) (i : Nat) (G : Hp) : Prop where
  ex : ∃ acc, G D = some (.lst acc) ∧ acc.length = i ∧ DpAll K (newer (upd H D (.lst [])) G) acc (ds.take i)
  same : Same H G
theorem Copying.start {K : PySem.W.Frag} {H : Hp} {D : Addr} {ds : List PyData} (hD : H D = none) : Copying K H D ds 0 (upd H D (.lst [])) :=
  ⟨⟨[], upd_same, rfl, .nil⟩, fun b o e => by rw [upd_ne (ne_of_none e hD)]; exact e⟩
theorem Copying.more {K : PySem.W.Frag} {H G G' : Hp} {D : Addr} {ds : List PyData} {i : Nat} {d : PyData} {y : V} (hD : H D = none) (c : Copying K H D ds i G) (hd : ds[i]? = some d) (s : Same G G') (hy : Dp K (newer G G') y d) :
    ∃ acc, G' D = some (.lst acc) ∧ acc.length = i ∧ Copying K H D ds (i + 1) (upd G' D (.lst (acc ++ [y]))) := by
  obtain ⟨⟨acc, ea, el, ed⟩, sm⟩ := c
  have off : ∀ {b : Addr} {u : HO}, b ≠ D → upd G' D u b = G' b := fun h => upd_ne h
  refine ⟨acc, s _ _ ea, el, ⟨acc ++ [y], upd_same, by rw [List.length_append, el]; rfl, ?_⟩, fun b o e => by rw [off (ne_of_none e hD)]; exact s _ _ (sm _ _ e)⟩
  have et : ds.take (i + 1) = ds.take i ++ [d] := by
    rw [List.take_add_one, hd]
    rfl
  rw [et]
  refine DpAll.snoc (Dp.same (newer_mono (fun b z => ?_) fun b z o e => ?_) d y hy) (DpAll.same (newer_mono (fun b z => z) fun b z o e => ?_) _ _ ed)
  · have n : b ≠ D := fun q => by
      rw [q, ea] at z
      cases z
    rw [upd_ne n]
    cases q : H b with
    | none => rfl
    | some o =>
      rw [sm b o q] at z
      cases z
  · have n : b ≠ D := fun q => by
      rw [q, upd_same] at z
      cases z
    rw [off n]
    exact e
  · have n : b ≠ D := fun q => by
      rw [q, upd_same] at z
      cases z
    rw [off n]
    exact s _ _ e
theorem Copying.all {K : PySem.W.Frag} {H G : Hp} {D : Addr} {ds : List PyData} (hD : H D = none) (c : Copying K H D ds ds.length G) : ∃ acc, G D = some (.lst acc) ∧ DpAll K (newer H G) acc ds := by
  obtain ⟨⟨acc, ea, _, ed⟩, sm⟩ := c
  rw [List.take_length] at ed
  refine ⟨acc, ea, DpAll.same (newer_mono (fun b z => ?_) fun b _ o e => e) _ _ ed⟩
  by_cases n : b = D
  · rw [n]
    exact hD
  · rw [upd_ne n] at z
    exact z
/-- copied(x), x data at most n deep: the same data on new addresses -/
def spCopy (K : PySem.W.Frag) (n : Nat) : Sp := fun vs H Q _ => ∃ (x : V) (d : PyData), vs = [x] ∧ Dp K H x d ∧ fit n d = true ∧ ∀ (y : V) (H' : Hp), Same H H' → Dp K (newer H H') y d → Q y H'
def spPrev (K : PySem.W.Frag) : Nat → Sp
  | 0 => fun _ _ _ _ => False
  | n + 1 => spCopy K n
/-- how the rest of such a def is told of a scalar -/
theorem dp_newer {K : PySem.W.Frag} {H G : Hp} {x : V} {d : PyData} (h : Dp K H x d) (n1 : ∀ ds, d ≠ .list ds) (n2 : ∀ ds, d ≠ .tuple ds) : Dp K G x d := by
  cases h with
  | non => exact .non
  | bl b => exact .bl b
  | int i => exact .int i
  | str z => exact .str z
  | lst => exact absurd rfl (n1 _)
  | tup => exact absurd rfl (n2 _)
end VG

set_option maxRecDepth 100000
/-! Own errors: an __init__ that calls super().__init__('..'), keeps copies of what it got, then the name of its class as its code. -/
namespace VG
open PySem PySem.Spec PyProof.Rows L2
/-- without what is told by a property alone -/
def nox (H : Hp) : Hp := fun b => match H b with
  | some (.ext _) => none
  | o => o
theorem nox_of {H : Hp} {b : Addr} {o : HO} (h : H b = some o) (n : ∀ φ, o ≠ .ext φ) : nox H b = some o := by
  unfold nox
  rw [h]
  cases o <;> first | rfl | exact absurd rfl (n _)
theorem of_nox {H : Hp} {b : Addr} {o : HO} (h : nox H b = some o) : H b = some o ∧ ∀ φ, o ≠ .ext φ := by
  unfold nox at h
  cases e : H b with
  | none =>
    rw [e] at h
    cases h
  | some u =>
    rw [e] at h
    cases u <;> cases h <;> exact ⟨rfl, fun φ z => by cases z⟩
theorem SqL.nox {K : PySem.W.Frag} {H : Hp} {a : Addr} {xs : List V} (h : SqL K H a xs) : SqL K (VG.nox H) a xs := by
  rcases h with (h | ⟨o, h⟩) | h
  · exact .inl (.inl (nox_of h fun _ z => by cases z))
  · exact .inl (.inr ⟨o, nox_of h fun _ z => by cases z⟩)
  · exact .inr h
theorem SqT.nox {K : PySem.W.Frag} {H : Hp} {a : Addr} {xs : List V} (h : SqT K H a xs) : SqT K (VG.nox H) a xs := by
  rcases h with (h | ⟨o, h⟩) | h
  · exact .inl (.inl (nox_of h fun _ z => by cases z))
  · exact .inl (.inr ⟨o, nox_of h fun _ z => by cases z⟩)
  · exact .inr h
mutual
theorem Dp.nox {K : PySem.W.Frag} {H : Hp} : ∀ (d : PyData) (v : V), Dp K H v d → Dp K (VG.nox H) v d
  | .none, _, h => by cases h; exact .non
  | .bool b, _, h => by cases h; exact .bl b
  | .int i, _, h => by cases h; exact .int i
  | .str x, _, h => by cases h; exact .str x
  | .list ds, _, h => by
    cases h with
    | lst hs hd => exact .lst (SqL.nox hs) (DpAll.nox ds _ hd)
  | .tuple ds, _, h => by
    cases h with
    | tup hs hd => exact .tup (SqT.nox hs) (DpAll.nox ds _ hd)
  | .dict _, _, h => by cases h
theorem DpAll.nox {K : PySem.W.Frag} {H : Hp} : ∀ (ds : List PyData) (vs : List V), DpAll K H vs ds → DpAll K (VG.nox H) vs ds
  | [], _, h => by cases h; exact .nil
  | d :: ds, _, h => by
    cases h with
    | cons h t => exact .cons (Dp.nox d _ h) (DpAll.nox ds _ t)
end
/-- fields and the data that they hold -/
def FlOk (K : PySem.W.Frag) (H : Hp) (fs : List (Str × V)) (FL : List (Str × PyData)) : Prop := fs.map (·.1) = FL.map (·.1) ∧ DpAll K H (fs.map (·.2)) (FL.map (·.2))
theorem FlOk.nil {K : PySem.W.Frag} {H : Hp} : FlOk K H [] [] := ⟨rfl, .nil⟩
theorem FlOk.cons {K : PySem.W.Frag} {H : Hp} {fs : List (Str × V)} {FL : List (Str × PyData)} {f : Str} {v : V} {d : PyData} (h : Dp K H v d) (t : FlOk K H fs FL) : FlOk K H ((f, v) :: fs) ((f, d) :: FL) :=
  ⟨congrArg (f :: ·) t.1, .cons h t.2⟩
theorem FlOk.same {K : PySem.W.Frag} {H H' : Hp} {fs : List (Str × V)} {FL : List (Str × PyData)} (e : Same H H') (t : FlOk K H fs FL) : FlOk K H' fs FL := ⟨t.1, DpAll.same e _ _ t.2⟩
theorem FlOk.len {K : PySem.W.Frag} {H : Hp} {fs : List (Str × V)} {FL : List (Str × PyData)} (t : FlOk K H fs FL) : fs.length = FL.length := by
  have z := congrArg List.length t.1
  rw [List.length_map, List.length_map] at z
  exact z
theorem FlOk.get {K : PySem.W.Frag} {H : Hp} {f : Str} {d : PyData} : ∀ {fs : List (Str × V)} {FL : List (Str × PyData)}, FlOk K H fs FL → FL.lookup f = some d → ∃ v, fs.lookup f = some v ∧ Dp K H v d
  | [], [], _, h => by cases h
  | (g, v) :: fs, (g', e) :: FL, ⟨h1, h2⟩, h => by
    have h1 := List.cons.inj h1
    have eg : g = g' := h1.1
    subst eg
    have h2 : DpAll K H (v :: fs.map (·.2)) (e :: FL.map (·.2)) := h2
    cases h2 with
    | cons hv ht =>
      rw [List.lookup_cons] at h ⊢
      cases q : f == g with
      | true =>
        rw [q] at h
        cases h
        exact ⟨v, rfl, hv⟩
      | false =>
        rw [q] at h
        exact FlOk.get ⟨h1.2, ht⟩ h
  | [], _ :: _, ⟨h, _⟩, _ => by cases h
  | _ :: _, [], ⟨h, _⟩, _ => by cases h
/-- an error at a is being made: H behind super().__init__, G now, FL what it holds (the last first) -/
structure Stg (K : PySem.W.Frag) (H : Hp) (a C : Addr) (FL : List (Str × PyData)) (G : Hp) : Prop where
  ex : ∃ fs, FlOk K (nox (newer H G)) fs FL ∧ ((FL = [] ∧ G a = some (exo a C none)) ∨ ∃ dx, H dx = none ∧ dx ≠ a ∧ G a = some (exo a C (some dx)) ∧ G dx = some (exd dx fs))
  but : ∀ b o, b ≠ a → H b = some o → G b = some o
  at_ : (H a).isSome = true
section
variable {K : PySem.W.Frag} {H G G1 : Hp} {a C : Addr} {FL : List (Str × PyData)}
theorem Stg.start (h : H a = some (exo a C none)) : Stg K H a C [] H := ⟨⟨[], .nil, .inl ⟨rfl, h⟩⟩, fun _ _ _ e => e, by rw [h]; rfl⟩
theorem Stg.on (s : Stg K H a C FL G) (sm : Same G G1) : Stg K H a C FL G1 := by
  obtain ⟨⟨fs, hf, hx⟩, but, ha⟩ := s
  refine ⟨⟨fs, hf.same fun b o e => ?_, ?_⟩, fun b o n e => sm _ _ (but b o n e), ha⟩
  · obtain ⟨e1, e2⟩ := of_nox e
    exact nox_of (newer_mono (fun _ z => z) (fun b _ o q => sm b o q) b o e1) e2
  · rcases hx with ⟨e1, e2⟩ | ⟨dx, h1, h2, h3, h4⟩
    · exact .inl ⟨e1, sm _ _ e2⟩
    · exact .inr ⟨dx, h1, h2, sm _ _ h3, sm _ _ h4⟩
theorem exo_ext {φ : HO} {e C : Addr} {d : Option Addr} (h : φ = exo e C d) : ∃ ψ, φ = .ext ψ := ⟨_, h⟩
/-- a field is stored -/
theorem Stg.store {σ : L2.St} {R : L2.St → Hp → Prop} {f : Str} {y : V} {d : PyData} (s : Stg K H a C FL G) (hy : Dp K (nox (newer H G)) y d) (hl : FL.length ≤ 900) (next : ∀ G', Stg K H a C ((f, d) :: FL) G' → R σ G') :
    (G a = some (exo a C none) ∧ ∀ dx, G dx = none → dx ≠ a → R σ (upd (upd G dx (exd dx [(f, y)])) a (exo a C (some dx)))) ∨
      ∃ (dx : Addr) (fs : List (Str × V)), G a = some (exo a C (some dx)) ∧ G dx = some (exd dx fs) ∧ fs.length ≤ 900 ∧ R σ (upd G dx (exd dx ((f, y) :: fs))) := by
  obtain ⟨⟨fs, hf, hx⟩, but, ha⟩ := s
  have nH : ∀ {b : Addr}, G b = none → b ≠ a → H b = none := fun {b} z n => by
    cases q : H b with
    | none => rfl
    | some o =>
      rw [but b o n q] at z
      cases z
  have nA : ∀ {b : Addr} {o : HO}, newer H G b = some o → b ≠ a := fun {b o} e z => by
    obtain ⟨u, hu⟩ := Option.isSome_iff_exists.mp ha
    rw [z, newer_none hu] at e
    cases e
  rcases hx with ⟨rfl, e2⟩ | ⟨dx, h1, h2, h3, h4⟩
  · refine .inl ⟨e2, fun dx hdx ne => next _ ⟨⟨[(f, y)], ?_, .inr ⟨dx, nH hdx ne, ne, upd_same, by rw [upd_ne ne, upd_same]⟩⟩, fun b o n e => ?_, ha⟩⟩
    · refine FlOk.cons (Dp.same (fun b o e => ?_) d y hy) .nil
      obtain ⟨e1, e3⟩ := of_nox e
      refine nox_of (newer_mono (fun _ z => z) (fun b _ o q => ?_) b o (H := H) (G := H) (H' := fun b => if b = a then none else G b) ?_) e3
      · have q : (if b = a then none else G b) = some o := q
        by_cases n : b = a
        · rw [if_pos n] at q
          cases q
        · rw [if_neg n] at q
          rw [upd_ne n, upd_ne (ne_of_none q hdx)]
          exact q
      · have n := nA e1
        have z := newer_sub b o e1
        cases w : H b with
        | none =>
          rw [newer_at w, if_neg n]
          exact z
        | some u =>
          rw [newer_none w] at e1
          cases e1
    · rw [upd_ne n]
      have z := but b o n e
      rw [upd_ne (ne_of_none z hdx)]
      exact z
  · refine .inr ⟨dx, fs, h3, h4, by rw [hf.len]; exact hl, next _ ⟨⟨(f, y) :: fs, ?_, .inr ⟨dx, h1, h2, by rw [upd_ne (Ne.symm h2)]; exact h3, upd_same⟩⟩, fun b o n e => ?_, ha⟩⟩
    · have sm : Same (nox (newer H G)) (nox (newer H (upd G dx (exd dx ((f, y) :: fs))))) := fun b o e => by
        obtain ⟨e1, e3⟩ := of_nox e
        have z := newer_sub b o e1
        have nd : b ≠ dx := fun q => by
          rw [q, h4] at z
          exact e3 _ (Option.some.inj z).symm
        refine nox_of ?_ e3
        cases w : H b with
        | none =>
          rw [newer_at w, upd_ne nd]
          exact z
        | some u =>
          rw [newer_none w] at e1
          cases e1
      exact FlOk.cons (Dp.same sm d y hy) (hf.same sm)
    · have z := but b o n e
      rw [upd_ne (ne_of_none e h1)]
      exact z
end
/-! ### the statements of such an __init__ behind super().__init__('..') -/
/-- self.f = copied(par) for each field and the slot of its parameter, then self.code = self.__class__.__name__ -/
inductive IniSts (ps : List Str) : List (Str × Nat) → List Stmt → Prop where
  | code {x : Str} {p1 p2 p3 p4 p5 p6 : Pos} (h : ps[0]? = some x) : IniSts ps [] [.Assign [.Attribute (.Name x p1) "code" p2] (.Attribute (.Attribute (.Name x p3) "__class__" p4) "__name__" p5) p6]
  | fld {x y f : Str} {i : Nat} {l : List (Str × Nat)} {ss : List Stmt} {p1 p2 p3 p4 p5 p6 : Pos} (h : ps[0]? = some x) (hy : ps[i]? = some y) (t : IniSts ps l ss) :
      IniSts ps ((f, i) :: l) (.Assign [.Attribute (.Name x p1) f p2] (.Call (.Name "copied" p3) [.Name y p4] [] p5) p6 :: ss)
/-- what stands in the parameters' slots -/
def Args (K : PySem.W.Frag) (n : Nat) (σ : L2.St) (H : Hp) : List (Str × Nat) → List PyData → Prop
  | [], [] => True
  | p :: l, d :: ds => (∃ x, σ[p.2]? = some (some x) ∧ Dp K (nox H) x d ∧ fit n d = true) ∧ Args K n σ H l ds
  | _, _ => False
/-- the fields behind them, the last first -/
def after : List (Str × Nat) → List PyData → List (Str × PyData) → List (Str × PyData)
  | p :: l, d :: ds, FL => after l ds ((p.1, d) :: FL)
  | _, _, FL => FL
def tIni (K : PySem.W.Frag) (C : Addr) (nm : Str) (n : Nat) (l : List (Str × Nat)) : TS := fun D σ G => ∃ (H : Hp) (a : Addr) (FL : List (Str × PyData)) (rs : List PyData), σ[0]? = some (some (.ref a)) ∧ H a = some (exo a C none) ∧ Stg K H a C FL G ∧
  Args K n σ H l rs ∧ FL.length + l.length ≤ 100 ∧ ∀ G', Stg K H a C (("code", .str nm) :: after l rs FL) G' → D.nx σ G'
section
variable {X : Cx} {C fC : Addr} {fdC : FuncData} {k n : Nat} {nm : Str}
/-- an own error's class, as its __init__ needs it -/
structure IniC (K : PySem.W.Frag) (C : Addr) (nm : Str) : Prop where
  oex : OexC K C
  cls : ClsTxt K C nm
  own : OwnX K C
theorem pss_ini (hX : ∀ x i p, X.N[i]? = some x → PE X (.Name x p) (tVar i)) (T : IniC X.K C nm) (GC : FnOk X.prog X.w X.K X.mg X.base CX0 k fC fdC ["value"] (spCopy X.K n)) (hr : Room k X.A) (hg : Gl X "copied") (mC : X.mg "copied" = some (.ref fC))
    (hk : PySem.W.keepIn X.K (.ref fC) = true) (bC : L2.Binds X.K fdC ["value"] []) :
    ∀ {l : List (Str × Nat)} {ss : List Stmt}, (∀ p ∈ l, p.1 ∈ exFields) → IniSts X.N l ss → PSs X ss (tIni X.K C nm n l) := by
  intro l ss hf hs
  induction hs with
  | code h =>
    refine ⟨fun pins s σ H D I hh => (pss_one (ps_ost (hX _ 0 _ h) (pe_clsName (hX _ 0 _ h)))).run pins s σ H D I ?_⟩
    obtain ⟨H0, a, FL, rs, h0, hae, st, ha, hl, q⟩ := hh
    have ex : H a = some (exo a C none) ∨ ∃ (dx : Addr) (fs : List (Str × V)), H a = some (exo a C (some dx)) ∧ H dx = some (exd dx fs) := by
      obtain ⟨fs, _, ⟨_, e⟩ | ⟨dx, _, _, e1, e2⟩⟩ := st.ex
      · exact .inl e
      · exact .inr ⟨dx, fs, e1, e2⟩
    refine ⟨_, h0, a, C, nm, rfl, T.cls, ex, _, h0, a, C, rfl, T.oex, T.own.no _ (by decide), ?_⟩
    refine st.store (R := D.nx) (.str nm) (by have := hl; simp at this; omega) fun G' s' => q G' ?_
    match rs, ha with
    | [], _ => exact s'
  | @fld x y f i l ss p1 p2 p3 p4 p5 p6 h hy t ih =>
    have ih := ih fun p hp => hf p (List.mem_cons_of_mem _ hp)
    refine ⟨fun pins s σ H D I hh => (pss_cons (ps_ost (hX _ 0 _ h) (pe_call GC hr hg mC hk bC .nil pass0 (pa_cons (hX _ i _ hy) pa_nil))) ih).run pins s σ H D I ?_⟩
    obtain ⟨H0, a, FL, rs, h0, hae, st, ha, hl, q⟩ := hh
    match rs, ha with
    | d :: rs, ⟨⟨x, hx, hd, hfit⟩, ha⟩ =>
      have noxH : Same (nox H0) H := fun b o e => by
        obtain ⟨e1, e2⟩ := of_nox e
        refine st.but b o (fun z => ?_) e1
        rw [z, hae] at e1
        exact e2 _ (Option.some.inj e1).symm
      refine ⟨x, hx, x, d, rfl, Dp.same noxH d x hd, hfit, fun y G1 sm hy' => ⟨_, h0, a, C, rfl, T.oex, T.own.no _ (hf (f, i) List.mem_cons_self), ?_⟩⟩
      have st1 := st.on sm
      have hy2 : Dp X.K (nox (newer H0 G1)) y d := by
        refine Dp.nox d y (Dp.same (newer_mono (fun b z => ?_) fun _ _ _ e => e) d y hy')
        cases w : H0 b with
        | none => rfl
        | some o =>
          by_cases nb : b = a
          · obtain ⟨fs, _, ⟨_, e⟩ | ⟨dx, _, _, e1, e2⟩⟩ := st.ex
            · rw [nb, e] at z
              cases z
            · rw [nb, e1] at z
              cases z
          · rw [st.but b o nb w] at z
            cases z
      have hl : FL.length + (l.length + 1) ≤ 100 := hl
      refine st1.store (R := (_ : Ends).nx) hy2 (by omega) fun G' s' => ?_
      exact ⟨H0, a, (f, d) :: FL, rs, h0, hae, s', ha, by show FL.length + 1 + l.length ≤ 100; omega, q⟩
end
end VG
namespace VG
open PySem PySem.Spec PyProof.Rows L2
/-- __init__ of an own error: what it leaves -/
def spErr (K : PySem.W.Frag) (C : Addr) (nm : Str) (n m : Nat) (l : List (Str × Nat)) : Sp := fun vs H Q _ => ∃ (a : Addr) (xs : List V) (rs : List PyData), vs = .ref a :: xs ∧ vs.length = m ∧ H a = some (exo a C none) ∧ Args K n (vs.map some) H l rs ∧ l.length ≤ 100 ∧
  ∀ G', Stg K H a C (("code", .str nm) :: after l rs []) G' → Q .non G'
section
variable {P : Program} {w : World} {K : PySem.W.Frag} {mg : Str → Option Value} {base : Heap} {B i newId : String} {bmB : List Value} {C f cc cda fC : Addr} {qual : Str} {params : Arguments} {rest : List Stmt} {sc : Scope} {fd fdC : FuncData} {ps : List Str} {p0 p1 p2 p3 p4 p5 : Pos} {j k n : Nat} {z nm : Str} {self : Arg} {l : List (Str × Nat)}
theorem ok_ini (hev : SupEv p0 p1 p2 p3 p4 j z) (T : IniTxt P K mg B i newId bmB C f cc cda qual params (superInit p0 p1 p2 p3 p4 p5 j z :: rest) sc fd) (S : IniScope ps sc) (hself : (params.posonlyargs ++ params.args).head? = some self) (hp0 : ps[0]? = some self.arg)
    (TC : IniC K C nm) (GC : FnOk P w K mg base CX0 k fC fdC ["value"] (spCopy K n)) (hg : sc.names.lookup ("copied" : Str) = some .globalImplicit) (mC : mg "copied" = some (.ref fC)) (hk : PySem.W.keepIn K (.ref fC) = true) (bC : L2.Binds K fdC ["value"] [])
    (hps : ∀ x ∈ ps, (x == ("__debug__" : Str)) = false ∧ (x == ("__classdict__" : Str)) = false) (hf : ∀ p ∈ l, p.1 ∈ exFields) (hs : IniSts ps l rest) : FnOk P w K mg base CX0 (k + 1) f fd ps (spErr K C nm n ps.length l) := by
  refine ini_ok hev T S hself hp0 (fun vs H Q E h => ?_) fun A outer s H vs Q E hr h => ?_
  · obtain ⟨_, _, _, _, e, _⟩ := h
    exact e
  · obtain ⟨a, xs, rs, rfl, hl, hea, ha, hn, q⟩ := h
    refine ⟨a, xs, rfl, hea, _, pss_ini (X := iniCx P w K mg base ps qual sc f cda cc A outer s H) (C := C) (nm := nm) (n := n) (fun x i p hx => pe_var hx (.inl (S.par x (List.mem_of_getElem? hx))) (hps x (List.mem_of_getElem? hx)).1 (hps x (List.mem_of_getElem? hx)).2) TC GC hr hg mC hk bC hf hs, ?_⟩
    exact ⟨H, a, [], rs, rfl, hea, Stg.start hea, ha, by show 0 + l.length ≤ 100; omega, q⟩
end
end VG

set_option maxRecDepth 100000
/-! An own error is made and raised: what its class and its dict tell behind that. -/
namespace VG
open PySem PySem.Spec PyProof.Rows L2
/-- the dict of an error: its fields, the last first -/
def ErrD (K : PySem.W.Frag) (H : Hp) (dd : Addr) (FL : List (Str × PyData)) : Prop := ∃ fs, H dd = some (.xd fs) ∧ FlOk K H fs FL
theorem ErrD.same {K : PySem.W.Frag} {H H' : Hp} {dd : Addr} {FL : List (Str × PyData)} (e : Same H H') (h : ErrD K H dd FL) : ErrD K H' dd FL := by
  obtain ⟨fs, h1, h2⟩ := h
  exact ⟨fs, e _ _ h1, h2.same e⟩
def slots : Nat → List Str → List (Str × Nat)
  | _, [] => []
  | i, f :: fs => (f, i) :: slots (i + 1) fs
theorem slots_len : ∀ {i : Nat} {l : List Str}, (slots i l).length = l.length
  | _, [] => rfl
  | i, _ :: l => congrArg (· + 1) (slots_len (i := i + 1) (l := l))
theorem args_of {K : PySem.W.Frag} {n : Nat} {H : Hp} : ∀ {vs : List V} {ds : List PyData} {flds : List Str} {pre : List (Option V)}, DpAll K (nox H) vs ds → (∀ d ∈ ds, fit n d = true) → flds.length = vs.length → Args K n (pre ++ vs.map some) H (slots pre.length flds) ds
  | [], [], [], _, _, _, _ => trivial
  | v :: vs, d :: ds, f :: flds, pre, .cons h t, hf, hl => by
    refine ⟨⟨v, ?_, h, hf d List.mem_cons_self⟩, ?_⟩
    · show (pre ++ (some v :: vs.map some))[pre.length]? = _
      rw [List.getElem?_append_right (Nat.le_refl _), Nat.sub_self]
      rfl
    · have q := args_of (pre := pre ++ [some v]) t (fun d hd => hf d (List.mem_cons_of_mem _ hd)) (Nat.succ.inj hl)
      rw [List.length_append, List.append_assoc] at q
      exact q
/-- what is wished of C(vs ..), C an own error with the fields flds -/
theorem mk_err {K : PySem.W.Frag} {C : Addr} {nm : Str} {n m : Nat} {flds : List Str} {H1 : Hp} {vs : List V} {ds : List PyData} {Q : XK} (hm : flds.length + 1 = m) (hl : flds.length = vs.length) (h100 : flds.length ≤ 100) (hv : DpAll K H1 vs ds) (hf : ∀ d ∈ ds, fit n d = true)
    (q : ∀ (dd : Addr) (H' : Hp), Same H1 H' → ErrD K H' dd (("code", .str nm) :: after (slots 1 flds) ds []) → Q (.ref C) (some dd) H') :
    vs.length ≤ 1000 ∧ ∀ a, H1 a = none → spErr K C nm n m (slots 1 flds) (.ref a :: (vs ++ [])) (upd H1 a (exo a C none))
      (fun v H2 => v = .non ∧ ∃ (d : Addr) (fs : List (Str × V)), H2 a = some (exo a C (some d)) ∧ H2 d = some (exd d fs) ∧ H1 d = none ∧ Q (.ref C) (some d) (upd (del H2 a) d (.xd fs))) (fun _ _ _ => False) := by
  refine ⟨by omega, fun a ha => ?_⟩
  rw [List.append_nil]
  have sm1 : Same (nox H1) (nox (upd H1 a (exo a C none))) := fun b o e => by
    obtain ⟨e1, e2⟩ := of_nox e
    exact nox_of (by rw [upd_ne (ne_of_none e1 ha)]; exact e1) e2
  refine ⟨a, vs, ds, rfl, by show vs.length + 1 = m; omega, upd_same, args_of (pre := [some (.ref a)]) (DpAll.same sm1 _ _ (DpAll.nox _ _ hv)) hf hl, by rw [slots_len]; exact h100, fun G' st => ⟨rfl, ?_⟩⟩
  obtain ⟨⟨fs, hF, ⟨z, _⟩ | ⟨dx, h1, h2, h3, h4⟩⟩, but, _⟩ := st
  · cases z
  · have hd1 : H1 dx = none := by
      rw [upd_ne h2] at h1
      exact h1
    refine ⟨dx, fs, h3, h4, hd1, q dx _ (fun b o e => ?_) ⟨fs, upd_same, hF.same fun b o e => ?_⟩⟩
    · have na := ne_of_none e ha
      rw [upd_ne (ne_of_none e hd1), del_ne na]
      exact but b o na (by rw [upd_ne na]; exact e)
    · obtain ⟨e1, e2⟩ := of_nox e
      have z := newer_sub b o e1
      have nd : b ≠ dx := fun y => by
        rw [y, h4] at z
        exact e2 _ (Option.some.inj z).symm
      have na : b ≠ a := fun y => by
        rw [y, newer_none upd_same] at e1
        cases e1
      rw [upd_ne nd, del_ne na]
      exact z
/-- an own error's class C, called by its name: its __init__ keeps its promise -/
structure ErrC (P : Program) (w : World) (K : PySem.W.Frag) (mg : Str → Option Value) (base : Heap) (nm : Str) (flds : List Str) (C : Addr) (k n : Nat) : Prop where
  ini : IniC K C nm
  glob : mg nm = some (.ref C)
  few : flds.length ≤ 100
  run : ∃ (f : Addr) (fd : FuncData) (ps : List Str), PySem.W.findIn K (.ref C) "__init__" = some (some (.ref f)) ∧ PySem.W.typeIn K (.ref f) = some (.type "function") ∧ L2.Binds K fd ps [] ∧ FnOk P w K mg base CX0 k f fd ps (spErr K C nm n (flds.length + 1) (slots 1 flds))
/-- raise C(e ..); its reading is closed by mk_err -/
def tErr (K : PySem.W.Frag) (C : Addr) (nm : Str) (flds : List Str) (n : Nat) (W : WX) (ta : TA) : TS := fun _ σ H => tMkO C (spErr K C nm n (flds.length + 1) (slots 1 flds)) [] ta σ H fun cls d H' => W cls d σ H'
section
variable {X : Cx} {nm : Str} {flds : List Str} {C : Addr} {k n : Nat} {W : WX} {e : Expr} {es : List Expr} {ta : TA} {p pos pos2 : Pos}
theorem ps_err (T : ErrC X.prog X.w X.K X.mg X.base nm flds C k n) (hc : X.calm = true) (tk : Takes X W) (hr : Room (k + 1) X.A) (hg : Gl X nm) (ha : PA X (e :: es) ta) (n1 : (nm == ("__debug__" : Str)) = false := by decide)
    (n2 : starEach (e :: es) X.env = (false, eval e X.env) :: starEach es X.env := by rfl) (n3 : (backTo pos (starEach es X.env)).any (·.1) = false := by rfl) :
    PS X (.Raise (some (.Call (.Name nm p) (e :: es) [] pos)) none pos2) (tErr X.K C nm flds n W ta) := by
  obtain ⟨f, fd, ps, h1, h2, h3, h4⟩ := T.run
  exact ps_raise hc tk (pmk_oex T.ini.oex h1 h2 h4 hr h3 .nil pass0 hg T.glob ha n1 n2 n3)
end
end VG

set_option maxRecDepth 100000
/-! A def whose code object is known (lambdas are made in it); what a lambda's body may let out. -/
namespace VG
open PySem PySem.Spec PyProof.Rows L2 LamX
section
variable {P : Program} {w : World} {K : PySem.W.Frag} {mg : Str → Option Value} {base : Heap}
theorem okGC {x qual : Str} {st : Stmt} {f c : Addr} {fd : FuncData} {N ps : List Str} {k : Nat} {sp : Sp} (F : Fun K x qual st f fd) (S : FnScope N ps (defScope st)) (hc : fd.code = .ref c) (many : ∀ vs H Q E, sp vs H Q E → vs.length = ps.length)
    (body : ∀ (A : Around) (outer : List Env) (s : Shared) (H : Hp) (vs : List V) (Q : VK) (E : XK), A.guards = some [] → Room k (A.deeper (envOfC qual (defScope st) s.heap.objs.size f (.ref c))) → sp vs H Q E →
      ∃ t, PSs (cxOf CX0 P w K mg base N qual (defScope st) f (.ref c) A outer s H E).nox (defBody st) t ∧
        t { nx := fun _ H' => Q .non H', rt := Q } (L2.start N vs) H) : FnG P w K mg base CX0 (k + 1) f fd ps sp := by
  obtain ⟨oc, od, kV, doc, pm, an, cdv, ct, osl, rfl, lk, hcd⟩ := F.ex
  obtain rfl : cdv = .ref c := hc
  refine ⟨many, fun A outer s H args us vs Q E hG hr e0 hb r q => LamX.run_ofS lk hcd S hr e0 hb r (many _ _ _ _ q) fun hr' => ?_⟩
  obtain ⟨t, h1, h2⟩ := body A outer s H vs Q E hG hr' q
  exact ⟨t, h1.nox, h2⟩
end
theorem lam_passes {X : Cx} {A : Around} {outer : List Env} {s : Shared} {H : Hp} {E : XK} {scope : Scope} {f c' : Addr} : Passes (L2.CX X.prog X.w) (lamCx X A outer s H E scope f c') E := passes_call (W := fun cls d _ H => E cls d H) (takes_of rfl rfl rfl rfl) fun _ _ _ _ h => h
/-- a call that lets nothing out, of a def that may -/
theorem passF {X : Cx} {P : Program} {w : World} : Passes (L2.CX P w) X (fun _ _ _ => False) := fun _ _ _ _ _ _ _ ⟨_, _, _, _, _, _, _, _, _, _, _, _, h⟩ => h.elim
/-- sequences alone -/
def seqs (H : Hp) : Hp := fun b => match H b with
  | some (.lst xs) => some (.lst xs)
  | some (.tup xs) => some (.tup xs)
  | some (.frz o (.lst xs)) => some (.frz o (.lst xs))
  | some (.frz o (.tup xs)) => some (.frz o (.tup xs))
  | _ => none
theorem seqs_sub {H : Hp} {b : Addr} {o : HO} (h : seqs H b = some o) : H b = some o ∧ ∀ ps, o ≠ .tbl ps := by
  unfold seqs at h
  split at h <;> first | (rename_i e; cases h; exact ⟨e, fun _ z => by cases z⟩) | cases h
mutual
theorem Dp.seqs {K : PySem.W.Frag} {H : Hp} : ∀ (d : PyData) (v : V), Dp K H v d → Dp K (VG.seqs H) v d
  | .none, _, h => by cases h; exact .non
  | .bool b, _, h => by cases h; exact .bl b
  | .int i, _, h => by cases h; exact .int i
  | .str x, _, h => by cases h; exact .str x
  | .list ds, _, h => by
    cases h with
    | lst hs hd =>
      refine .lst ?_ (DpAll.seqs ds _ hd)
      rcases hs with (e | ⟨o, e⟩) | e
      · exact .inl (.inl (by unfold VG.seqs; rw [e]))
      · exact .inl (.inr ⟨o, by unfold VG.seqs; rw [e]⟩)
      · exact .inr e
  | .tuple ds, _, h => by
    cases h with
    | tup hs hd =>
      refine .tup ?_ (DpAll.seqs ds _ hd)
      rcases hs with (e | ⟨o, e⟩) | e
      · exact .inl (.inl (by unfold VG.seqs; rw [e]))
      · exact .inl (.inr ⟨o, by unfold VG.seqs; rw [e]⟩)
      · exact .inr e
  | .dict _, _, h => by cases h
theorem DpAll.seqs {K : PySem.W.Frag} {H : Hp} : ∀ (ds : List PyData) (vs : List V), DpAll K H vs ds → DpAll K (VG.seqs H) vs ds
  | [], _, h => by cases h; exact .nil
  | d :: ds, _, h => by
    cases h with
    | cons h t => exact .cons (Dp.seqs d _ h) (DpAll.seqs ds _ t)
end
/-- data stand where tables alone have grown -/
theorem Dp.grown {K : PySem.W.Frag} {H H' : Hp} {d : PyData} {v : V} (e : ExtN H H') (h : Dp K H v d) : Dp K H' v d := Dp.same (fun b o z => e b o (seqs_sub z).1 (seqs_sub z).2) d v (Dp.seqs d v h)
end VG

set_option maxRecDepth 100000
/-! Plain calls of defs with a star parameter. -/
namespace VG
open PySem PySem.Spec PyProof.Rows L2
section
variable {X : Cx} {CX : CXT} {k : Nat} {f : Addr} {sp : Sp} {E : XK} {x : Str} {p pos : Pos} {e : Expr} {es : List Expr} {t : TA}
theorem pe_callR (F : FnR X.prog X.w X.K X.mg X.base CX k f sp) (hr : Room k X.A) (hk : PySem.W.keepIn X.K (.ref f) = true) (hg : Gl X x) (hm : X.mg x = some (.ref f)) (hx : Passes CX X E) (ha : PA X (e :: es) t) (n1 : (x == ("__debug__" : Str)) = false := by decide)
    (n2 : starEach (e :: es) X.env = (false, eval e X.env) :: starEach es X.env := by rfl) (n3 : (backTo pos (starEach es X.env)).any (·.1) = false := by rfl) : PE X (.Call (.Name x p) (e :: es) [] pos) (fun σ H Q => t σ H fun vs H1 => sp vs H1 Q E) :=
  ⟨fun pins s σ H Q I q0 => wpAny_Call_Name_kw (ld_glob I hg hm (PySem.W.callWith_K (h₀ := X.base) I.ok.mod.kin hk (thn (ha.run pos pins s σ H _ I q0) fun us s1 ⟨vs, H1, I1, r, q⟩ => ⟨I1.kIn, wpAny_call (codeAny_mono (run_fnR F hr hx I1 r q) fun res s' z => z)⟩) n2 n3) n1)⟩
theorem pe_callR0 (F : FnR X.prog X.w X.K X.mg X.base CX k f sp) (hr : Room k X.A) (hk : PySem.W.keepIn X.K (.ref f) = true) (hg : Gl X x) (hm : X.mg x = some (.ref f)) (hx : Passes CX X E) (n1 : (x == ("__debug__" : Str)) = false := by decide) :
    PE X (.Call (.Name x p) [] [] pos) (fun σ H Q => sp [] H Q E) :=
  ⟨fun pins s σ H Q I q0 => wpAny_Call_Name_kw (ld_glob I hg hm (PySem.W.callWith_K0 I.kIn hk (wpAny_call (codeAny_mono (run_fnR (us := []) F hr hx I .nil q0) fun res s' z => z))) n1)⟩
end
end VG

set_option maxRecDepth 100000
/-! A hook that knows cStatics, and tells the __init__ of errors (whose closure holds their class). -/
namespace VG
open PySem PySem.Spec PyProof.Rows L2
open He (ba Fa DefD Tab Defn AlX)
def asI (g : Addr → Option Obj) (n : Nat) : List Addr := He.asD g n ++ [cStatics]
abbrev FnI : Type := Option (Str × Str × Arguments × FuncBody × Scope × Addr × List Str × Addr)
def fnI (K : PySem.W.Frag) (p : Str × Option Str) : FnI := match K.lookup (He.fAd K p) with
  | some ⟨_, _, .func fd, _⟩ => some (fd.name, fd.qualname, fd.params, fd.body, fd.scope, fd.globals, fd.closure.map (·.1), fd.builtins)
  | _ => none
/-- an error's __init__, as it is written -/
structure IniD where
  cls : Str
  st : Stmt
def IniD.at_ (d : IniD) : Str × Option Str := (d.cls, some "__init__")
def IniD.qual (d : IniD) : Str := d.cls ++ ".__init__"
def IniD.val (d : IniD) : FnI := some ("__init__", d.qual, defArgs d.st, .stmts (defBody d.st), defScope d.st, mainGlobals, ["__class__"], builtinsNs)
abbrev AlI : Type := AlX × List FnI
section
variable {n : Nat} {fa : List Fa} {fn : List DefD} {tf : List Defn} {ex : PySem.W.Frag → Bool} {ins : List IniD}
def obsI (n : Nat) (fa : List Fa) (fn : List DefD) (tf : List Defn) (ex : PySem.W.Frag → Bool) (ins : List IniD) (g : Addr → Option Obj) : AlI :=
  ((He.obsT fa fn [] (He.frT g (asI g n)), ex (He.frT g (asI g n)) && He.tabsB g tf (He.frT g (asI g n))), ins.map fun d => fnI (He.frT g (asI g n)) d.at_)
structure SaysI (fa : List Fa) (fn : List DefD) (tf : List Defn) (ex : PySem.W.Frag → Bool) (ins : List IniD) (w : World) (h : Heap) (K : PySem.W.Frag) : Prop where
  x : He.SaysX fa fn [] tf ex w h K
  ini : ∀ d ∈ ins, fnI K d.at_ = d.val
theorem saysI_of {w : World} {h : Heap} (e : obsI n fa fn tf ex ins h.get? = (He.valX fn [] w, ins.map IniD.val)) : SaysI fa fn tf ex ins w h (He.frT h.get? (asI h.get? n)) := by
  generalize hK : He.frT h.get? (asI h.get? n) = K at *
  have e1 : He.obsT fa fn [] K = He.valT fn [] w := by
    have z := congrArg (fun z : AlI => z.1.1) e
    unfold obsI at z
    rw [hK] at z
    exact z
  have e2 : (ex K && He.tabsB h.get? tf K) = true := by
    have z := congrArg (fun z : AlI => z.1.2) e
    unfold obsI at z
    rw [hK] at z
    exact z
  have e3 : (ins.map fun d => fnI K d.at_) = ins.map IniD.val := by
    have z := congrArg (fun z : AlI => z.2) e
    unfold obsI at z
    rw [hK] at z
    exact z
  obtain ⟨h1, h2⟩ := ba e2
  have tabs : ∀ p ∈ tf, PySem.W.codeHdIn K (He.cT K p).1 (He.cT K p).2 = true ∧ ∃ o, h.get? (He.cT K p).2 = some o ∧ He.emptyTab o = true := fun p hp => by
    obtain ⟨h3, h4⟩ := ba (List.all_eq_true.mp h2 p hp)
    match q : h.get? (He.cT K p).2 with
    | none =>
      rw [q] at h4
      cases h4
    | some o =>
      rw [q] at h4
      exact ⟨h3, o, rfl, h4⟩
  refine ⟨⟨e1, h1, fun p hp => (tabs p hp).1, fun p hp => ?_, fun p hp => ?_⟩, fun d hd => ?_⟩
  · obtain ⟨_, o, q, z⟩ := tabs p hp
    rw [← hK] at q ⊢
    exact He.frT_none q z
  · obtain ⟨_, o, q, z⟩ := tabs p hp
    rw [q, He.emptyTab_eq z]
  · exact List.map_inj_left.mp e3 d hd
def hookI (n : Nat) (fa : List Fa) (fn : List DefD) (tf : List Defn) (ex : PySem.W.Frag → Bool) (ins : List IniD) : PySem.W.Hook where
  α := AlI
  obs := fun s => obsI n fa fn tf ex ins s.heap.get?
  val := fun w => (He.valX fn [] w, ins.map IniD.val)
  says := fun w h => ∃ K : PySem.W.Frag, K.In h ∧ SaysI fa fn tf ex ins w h K
  of := fun _ _ e => ⟨_, He.frT_in, saysI_of e⟩
  keeps := fun _ _ _ ⟨K, hK, c⟩ k => ⟨K, PySem.W.Frag.In.keeps hK k, ⟨c.x.t, c.x.more, c.x.hd, c.x.out, fun p hp => k _ _ (c.x.empty p hp)⟩, c.ini⟩
theorem obsI_eq {g : Addr → Option Obj} {s : Shared} (h : ∀ a, g a = s.heap.get? a) : obsI n fa fn tf ex ins g = (hookI n fa fn tf ex ins).obs s := by
  have e : g = s.heap.get? := funext h
  rw [e] <;> rfl
end
end VG

set_option maxRecDepth 100000
/-! What the head is to tell of an own error, as a Bool. -/
namespace VG
open PySem PySem.Spec PyProof.Rows L2
def clsB (K : PySem.W.Frag) (C : Addr) (nm : Str) : Bool := match K.lookup C with
  | some ⟨.type t, _, .cls cd, sl⟩ => decide (t = "type") && (match cd.mro, sl.toList with
    | .ref C' :: bm, [_, _, some (.str z _), _, some (.builtin n), _] => decide (C' = C) && (decide (z = nm) && (decide (n = "ValueError.__new__") && (cd.hasDict && (!cd.hasDel && PySem.HandSPX.refsVE bm))))
    | _, _ => false)
  | _ => false
theorem clsB_ok {K : PySem.W.Frag} {C : Addr} {nm : Str} (h : clsB K C nm = true) : ∃ (name q : Str) (N : Addr) (bs bm : List Value) (sn : List Str) (sub : List Value) (ab : Bool) (col : Option Bool) (dd : Option Addr) (k0 k1 : Option Value) (tk : Tok) (k3 k5 : Option Value),
    K.lookup C = some (excClassObj name q C N bs bm true sn sub ab col dd k0 k1 (some (.str nm tk)) k3 k5 "ValueError.__new__") ∧ PySem.HandSPX.refsVE bm = true := by
  unfold clsB at h
  split at h
  · rename_i t dd cd sl e
    obtain ⟨h1, h2⟩ := Bool.and_eq_true_iff.mp h
    have ht : t = "type" := of_decide_eq_true h1
    split at h2
    · rename_i C' bm a0 a1 z tk a3 n a5 e1 e2
      simp only [Bool.and_eq_true, decide_eq_true_eq, Bool.not_eq_true'] at h2
      obtain ⟨g1, g2, g3, g4, g5, g6⟩ := h2
      subst ht g1 g2 g3
      obtain ⟨c1, c2, c3, c4, c5, c6, c7, c8, c9, c10, c11⟩ := cd
      have e1 : c3 = .ref C' :: bm := e1
      have g4 : c6 = true := g4
      have g5 : c11 = false := g5
      subst e1 g4 g5
      have es : sl = #[a0, a1, some (.str z tk), a3, some (.builtin "ValueError.__new__"), a5] := Array.toList_inj.mp e2
      subst es
      exact ⟨c1, c5, c4, c2, bm, c7, c8, c9, c10, dd, a0, a1, tk, a3, a5, e, g6⟩
    · cases h2
  · cases h
def nameB (K : PySem.W.Frag) (C : Addr) : Bool := match PySem.W.findCls K (.ref C) (.type "type") "__name__" with
  | some (.get g a o t) => decide (g = .builtin "getset_descriptor.__get__") && (decide (a = .builtin "type.__name__") && (decide (o = .ref C) && decide (t = .type "type")))
  | _ => false
theorem nameB_ok {K : PySem.W.Frag} {C : Addr} (h : nameB K C = true) : PySem.W.findCls K (.ref C) (.type "type") "__name__" = some (.get (.builtin "getset_descriptor.__get__") (.builtin "type.__name__") (.ref C) (.type "type")) := by
  unfold nameB at h
  split at h
  · rename_i g a o t e
    simp only [Bool.and_eq_true, decide_eq_true_eq] at h
    obtain ⟨h1, h2, h3, h4⟩ := h
    rw [e, h1, h2, h3, h4]
  · cases h
/-- an own error's class: all but its __init__ -/
def errB (K : PySem.W.Frag) (nm : Str) : Bool := clsB K (He.ga K nm) nm && (nameB K (He.ga K nm) && (ownXB K (He.ga K nm) && (decide (PySem.W.findIn K (.ref (He.ga K nm)) "__setattr__" = some (some (.builtin "object.__setattr__"))) && (decide (PySem.W.subIn K (.ref (He.ga K nm)) (.type "BaseException") = some true) &&
  (decide (PySem.W.typeIn K (.ref (He.ga K nm)) = some (.type "type")) && (PySem.W.keepIn K (.ref (He.ga K nm)) && (decide (PySem.W.findIn K (.ref (He.ga K nm)) "__class__" = some (some (.builtin "object.__class__"))) && (decide (PySem.W.specialIn K (.builtin "object.__class__") "__get__" = some (some (.builtin "getset_descriptor.__get__"))) &&
  (decide (PySem.W.takesIn K (.builtin "object.__class__") = some true) && (decide (PySem.W.mroIn K (He.ga K nm) (.type "object") = some true) && PySem.W.readsIn K (He.ga K nm) (.type "type")))))))))))
theorem errB_ok {K : PySem.W.Frag} {nm : Str} (h : errB K nm = true) : IniC K (He.ga K nm) nm := by
  unfold errB at h
  simp only [Bool.and_eq_true, decide_eq_true_eq] at h
  obtain ⟨h1, h2, h3, h4, h5, h6, h7, h8, h9, h10, h11, h12⟩ := h
  obtain ⟨name, q, N, bs, bm, sn, sub, ab, col, dd, k0, k1, tk, k3, k5, e, g⟩ := clsB_ok h1
  have o := ownX_of h3
  refine ⟨⟨⟨name, q, N, bs, bm, sn, sub, ab, col, dd, k0, k1, _, k3, k5, e, g⟩, h4, h5, h6, h7⟩, ⟨o.xf.ga, o.xf.gg, h5, ?_, h8, h9, h10, h11, h12, nameB_ok h2, h6, ⟨_, _, _, _, tk, e, rfl⟩⟩, o⟩
  unfold PySem.W.clsIn
  rw [e] <;> rfl
/-- its __init__ -/
def iniB (K : PySem.W.Frag) (nm file : Str) : Bool := decide (PySem.W.findIn K (.ref (He.ga K nm)) "__init__" = some (some (.ref (He.ma K (He.ga K nm) "__init__")))) && (decide (PySem.W.typeIn K (.ref (He.ma K (He.ga K nm) "__init__")) = some (.type "function")) &&
  (decide (PySem.W.ks_superIn K (He.ga K nm) (He.ga K nm) "__init__" = some (some (.builtin "ValueError.__init__"))) && (decide (PySem.W.subIn K (.ref (He.ga K nm)) (.type "ValueError") = some true) && (decide (PySem.W.mroIn K (He.ga K nm) (.ref (He.ga K nm)) = some true) &&
  (decide (PySem.W.nsIn K cStatics "thirdparty.any" = some none) && (match K.lookup (He.ma K (He.ga K nm) "__init__") with
    | some ⟨_, _, .func fd, _⟩ => (match fd.code, fd.closure with
      | .ref cda, [(_, cc)] => decide (fd.defaults = .none) && (PySem.W.codeIn K (.ref cda) (nm ++ ".__init__") && ((match K.lookup cda with
          | some ⟨_, _, .fields vs, _⟩ => (match (vs[2]? : Option Value) with
            | some (.str z _) => decide (z = file)
            | _ => false)
          | _ => false) && (match K.lookup cc with
          | some ⟨_, _, .cell (some (.ref C')), _⟩ => decide (C' = He.ga K nm)
          | _ => false)))
      | _, _ => false)
    | _ => false))))))
structure IniOk (K : PySem.W.Frag) (nm file : Str) : Prop where
  find : PySem.W.findIn K (.ref (He.ga K nm)) "__init__" = some (some (.ref (He.ma K (He.ga K nm) "__init__")))
  typ : PySem.W.typeIn K (.ref (He.ma K (He.ga K nm) "__init__")) = some (.type "function")
  up : PySem.W.ks_superIn K (He.ga K nm) (He.ga K nm) "__init__" = some (some (.builtin "ValueError.__init__"))
  isB : PySem.W.subIn K (.ref (He.ga K nm)) (.type "ValueError") = some true
  self : PySem.W.mroIn K (He.ga K nm) (.ref (He.ga K nm)) = some true
  opq : PySem.W.nsIn K cStatics "thirdparty.any" = some none
  fn : ∃ (oc : Value) (od : Option Addr) (fd : FuncData) (osl : Array (Option Value)) (cda cc : Addr) (x : Str), K.lookup (He.ma K (He.ga K nm) "__init__") = some ⟨oc, od, .func fd, osl⟩ ∧ fd.code = .ref cda ∧ fd.closure = [(x, cc)] ∧ fd.defaults = .none ∧
    PySem.W.codeIn K (.ref cda) (nm ++ ".__init__") = true ∧ (∃ ccl cdd vs ccs tf, K.lookup cda = some ⟨ccl, cdd, .fields vs, ccs⟩ ∧ vs[2]? = some (.str file tf)) ∧ ∃ cl cld csl, K.lookup cc = some ⟨cl, cld, .cell (some (.ref (He.ga K nm))), csl⟩
theorem iniB_ok {K : PySem.W.Frag} {nm file : Str} (h : iniB K nm file = true) : IniOk K nm file := by
  unfold iniB at h
  simp only [Bool.and_eq_true, decide_eq_true_eq] at h
  obtain ⟨h1, h2, h3, h4, h5, h6, h7⟩ := h
  refine ⟨h1, h2, h3, h4, h5, h6, ?_⟩
  split at h7
  · rename_i oc od fd osl e
    split at h7
    · rename_i cda x cc e1 e2
      simp only [Bool.and_eq_true, decide_eq_true_eq] at h7
      obtain ⟨g1, g2, g3, g4⟩ := h7
      refine ⟨oc, od, fd, osl, cda, cc, x, e, e1, e2, g1, g2, ?_, ?_⟩
      · split at g3
        · rename_i ccl cdd vs ccs ec
          split at g3
          · rename_i z tf ez
            rw [of_decide_eq_true g3] at ez
            exact ⟨ccl, cdd, vs, ccs, tf, ec, ez⟩
          · cases g3
        · cases g3
      · split at g4
        · rename_i cl cld C' csl ec
          rw [of_decide_eq_true g4] at ec
          exact ⟨cl, cld, csl, ec⟩
        · cases g4
    · cases h7
  · cases h7
end VG

set_option maxRecDepth 100000
/-! From the head's facts of an own error to its promise. -/
namespace VG
open PySem PySem.Spec PyProof.Rows L2
section
variable {P : Program} {w : World} {K : PySem.W.Frag} {mg : Str → Option Value} {base : Heap}
theorem errC_of {nm : Str} {flds ps : List Str} {st : Stmt} {rest : List Stmt} {p0 p1 p2 p3 p4 p5 : Pos} {j k n : Nat} {z : Str} {self : Arg} {fC : Addr} {fdC : FuncData} (ini : fnI K (IniD.at_ ⟨nm, st⟩) = IniD.val ⟨nm, st⟩) (I : IniOk K nm P.main.file) (E : IniC K (He.ga K nm) nm) (glob : mg nm = some (.ref (He.ga K nm)))
    (hev : SupEv p0 p1 p2 p3 p4 j z) (hb : defBody st = superInit p0 p1 p2 p3 p4 p5 j z :: rest) (S : IniScope ps (defScope st)) (hself : ((defArgs st).posonlyargs ++ (defArgs st).args).head? = some self) (hp0 : ps[0]? = some self.arg)
    (GC : FnOk P w K mg base CX0 k fC fdC ["value"] (spCopy K n)) (hg : (defScope st).names.lookup ("copied" : Str) = some .globalImplicit) (mC : mg "copied" = some (.ref fC)) (hk : PySem.W.keepIn K (.ref fC) = true) (bC : L2.Binds K fdC ["value"] [])
    (hps : ∀ x ∈ ps, (x == ("__debug__" : Str)) = false ∧ (x == ("__classdict__" : Str)) = false) (hf : ∀ f ∈ flds, f ∈ exFields) (few : flds.length ≤ 100) (hl : ps.length = flds.length + 1) (hs : IniSts ps (slots 1 flds) rest) (sup : mg "super" = none) (top : (P.main.scope.names.lookup ("super" : Str)).isSome = false)
    (binds : ∀ (q : Str) (kV doc pm cdv ct : Value) (an : Option Addr) (cc : Addr) (us : List Value), us.length = ps.length → bindArgs (PySem.W.ksFn "__init__" q (defArgs st) (defBody st) (defScope st) .none kV doc pm an cdv ct cc) ⟨us, []⟩ = pure (ps.zip us)) :
    ErrC P w K mg base nm flds (He.ga K nm) (k + 1) n := by
  obtain ⟨oc, od, fd, osl, cda, cc, x, e, e1, e2, e3, g2, g3, g4⟩ := I.fn
  have e0 : K.lookup (He.fAd K (IniD.at_ ⟨nm, st⟩)) = some ⟨oc, od, .func fd, osl⟩ := e
  unfold fnI at ini
  rw [e0] at ini
  obtain ⟨f1, f2, f3, f4, f5, f6, f7, f8, f9, f10, f11, f12, f13, f14, f15⟩ := fd
  have ini : (some (f1, f2, f3, f4, f5, f6, f7.map (·.1), f15) : FnI) = (some (("__init__" : Str), IniD.qual ⟨nm, st⟩, defArgs st, FuncBody.stmts (defBody st), defScope st, mainGlobals, [("__class__" : Str)], builtinsNs) : FnI) := ini
  simp only [Option.some.injEq, Prod.mk.injEq] at ini
  obtain ⟨rfl, rfl, rfl, rfl, rfl, rfl, ec, rfl⟩ := ini
  have e1 : f13 = .ref cda := e1
  have e2 : f7 = [(x, cc)] := e2
  have e3 : f8 = .none := e3
  subst e1 e2 e3
  have ex : x = "__class__" := by
    have z := List.cons.inj ec
    exact z.1
  subst ex
  obtain ⟨name, q, N, bs, bm, sn, sub, ab, col, dd, k0, k1, k2, k3, k5, lC, hbm⟩ := E.oex.cls
  have T : IniTxt P K mg "ValueError" "ValueError.__init__" "ValueError.__new__" PySem.HandSPX.veTail (He.ga K nm) (He.ma K (He.ga K nm) "__init__") cc cda (IniD.qual ⟨nm, st⟩) (defArgs st) (superInit p0 p1 p2 p3 p4 p5 j z :: rest) (defScope st)
      (PySem.W.ksFn "__init__" (IniD.qual ⟨nm, st⟩) (defArgs st) (defBody st) (defScope st) .none f9 f10 f11 f12 (.ref cda) f14 cc) := by
    refine ⟨PySem.W.kxs_ValueError, F.excBase_ValueError, ⟨oc, od, .none, f9, f10, f11, f12, f14, osl, by rw [hb], e⟩, g2, g3, g4, ⟨name, q, N, bs, bm, true, sn, sub, ab, col, dd, k0, k1, k2, k3, k5, lC⟩, I.up, I.isB, I.self, I.opq, sup, top⟩
  have ok := ok_ini (n := n) (nm := nm) (l := slots 1 flds) hev T S hself hp0 E GC hg mC hk bC hps (fun p hp => ?_) hs
  · rw [hl] at ok
    exact ⟨E, glob, few, _, _, ps, I.find, I.typ, .all (fun us hus => binds _ _ _ _ _ _ _ _ us hus), ok⟩
  · have key : ∀ (l : List Str) (i : Nat), (∀ f ∈ l, f ∈ exFields) → ∀ p ∈ slots i l, p.1 ∈ exFields := by
      intro l
      induction l with
      | nil => intro i _ p hp; cases hp
      | cons f l ih =>
        intro i h p hp
        rcases List.mem_cons.mp hp with e | hp
        · rw [e]
          exact h f List.mem_cons_self
        · exact ih (i + 1) (fun g hg => h g (List.mem_cons_of_mem _ hg)) p hp
    exact key flds 1 hf p hp
end
end VG

set_option maxRecDepth 100000
/-! Instances of own classes: ==, != by an own __eq__, repr, len, truth by own methods. -/
namespace VG
open PySem PySem.Spec PyProof.Rows L2
theorem FnOk.toR {P : Program} {w : World} {K : PySem.W.Frag} {mg : Str → Option Value} {base : Heap} {CX : CXT} {k : Nat} {f : Addr} {fd : FuncData} {ps : List Str} {sp : Sp} (F : L2.FnOk P w K mg base CX k f fd ps sp) (hb : L2.Binds K fd ps []) : FnR P w K mg base CX k f sp := by
  intro A outer s H us vs Q E hr e0 r h
  have hl := F.len _ _ _ _ h
  have hk : K.In s.heap := e0.mod.kin.keeps fun b o e => (e0.bs b o e).1
  refine F.run A outer s H ⟨us, []⟩ us vs Q E hr e0 ?_ r h
  have z := hb s us hk (by rw [List.append_nil, ← r.length, hl])
  rw [List.append_nil] at z
  exact z
/-- data stand where an object that is no sequence changes -/
theorem Dp.offI {K : PySem.W.Frag} {H : Hp} {p C dx : Addr} {fs : List (Str × V)} {o : HO} {d : PyData} {v : V} (hp : H p = some (.ins C dx fs)) (h : Dp K H v d) : Dp K (upd H p o) v d :=
  Dp.same (fun b u z => by
    have n : b ≠ p := fun e => by
      rw [e] at z
      have y := (seqs_sub z).1
      unfold VG.seqs at z
      rw [hp] at z
      cases z
    rw [upd_ne n]
    exact (seqs_sub z).1) d v (Dp.seqs d v h)
section
variable {X : Cx} {CX : CXT} {pins : List (Addr × Obj)} {σ : L2.St} {H : Hp} {s : Shared} {a C dx g : Addr} {fs : List (Str × V)} {n : Nat} {sp : Sp} {E : XK}
theorem ins_inst (I : Inv X pins σ H s) (e : H a = some (.ins C dx fs)) : ∃ od, PySem.W.InstAt s.heap a (PySem.W.instObj C dx) C (some od) := by
  obtain ⟨mA, J, _⟩ := ins_get I.hok e
  obtain ⟨od, J, _⟩ := J.look
  exact ⟨od, J⟩
/-- x == y, x an instance of C, whose __eq__ stands at g; y any value -/
def rEqO (K : PySem.W.Frag) (C : Addr) (sp : Sp) (E : XK) : R2 := fun x y H Q => ∃ a dx fs t, x = .ref a ∧ H a = some (.ins C dx fs) ∧ TyX K H y t ∧ PySem.W.notFirst K C t = true ∧ sp [x, y] H Q E
theorem op_eqO (hs : PySem.W.findIn X.K (.ref C) "__eq__" = some (some (.ref g))) (hf : PySem.W.isFn X.K (.ref g) = true) (F : FnR X.prog X.w X.K X.mg X.base CX n g sp) (hr : Room n X.A) (hx : Passes CX X E) : OpR X (compareOp .Eq) (rEqO X.K C sp E) := by
  intro pins s σ H x y v u Q I rx ry h
  obtain ⟨a, dx, fs, t, rfl, ha, ty, hn, q⟩ := h
  cases (show v = Value.ref a from rx)
  obtain ⟨od, J⟩ := ins_inst I ha
  obtain ⟨P, kx, kp, _⟩ := kit_of I ry ty
  obtain ⟨m, hF⟩ := I.fr
  show wpAny _ _ (richCompare .Eq (.ref a) u) _ _ _
  refine PySem.W.cmp_K (op := .Eq) hr.units0 hF I.ok.mod.kin J (kx.ty _ _ I.kIn kp) hn hs hf ?_
  refine wpAny_mono (wpAny_call (run_fnR (us := [.ref a, u]) (vs := [.ref a, y]) F hr hx I (.cons rfl (.cons ry .nil)) q)) (fun w s' z => ?_) fun _ _ x => x
  obtain ⟨z', H', I', rz, qz⟩ := z
  exact SlX.cmpback rz ⟨z', H', I', rz, qz⟩
/-- repr(x), x an instance of C, whose __repr__ stands at g -/
def rReprO (C : Addr) (sp : Sp) (E : XK) : List V → Hp → VK → Prop := fun xs H Q => ∃ a dx fs, xs = [.ref a] ∧ H a = some (.ins C dx fs) ∧ sp xs H (fun v H' => (∃ z, v = .str z) ∧ Q v H') E
theorem call_reprO (hs : PySem.W.findIn X.K (.ref C) "__repr__" = some (some (.ref g))) (hf : PySem.W.isFn X.K (.ref g) = true) (F : FnR X.prog X.w X.K X.mg X.base CX n g sp) (hr : Room (n + 1) X.A) (hx : Passes CX X E) : CallR X (.builtin "repr") (rReprO C sp E) := by
  intro pins s σ H xs us Q I r h
  obtain ⟨a, dx, fs, rfl, ha, q⟩ := h
  obtain ⟨u, rfl, ru⟩ := vals1 r
  cases (show u = Value.ref a from ru)
  obtain ⟨od, J⟩ := ins_inst I ha
  obtain ⟨m, hF⟩ := I.fr
  have hr1 : Room n X.A.in1 := Room.in1 hr
  refine PySem.W.repr_K hr1.units0 hF I.ok.mod.kin J hs hf (wpAny_mono (wpAny_call (SlX.run_at (us := [.ref a]) (ws := [.ref a]) F hr1 I.env0.in1 hx I (.cons rfl .nil) q)) (fun v s' z => ?_) fun _ _ x => x)
  obtain ⟨z', H', I', rz, ⟨y, rfl⟩, qz⟩ := z
  obtain ⟨t, e⟩ := (show ∃ t, v = Value.str y t from rz)
  cases e
  exact ⟨.str y, H', I', ⟨t, rfl⟩, qz⟩
/-- what != by an own __eq__ asks of the class -/
structure NeK (K : PySem.W.Frag) (C g : Addr) : Prop where
  ex : ∃ (of : Obj) (nm q : Str) (N : Addr) (bs : List Value) (hdct : Bool) (sn : List Str) (sub : List Value) (ab : Bool) (col : Option Bool) (dd : Option Addr) (k0 k1 k2 k3 k5 : Option Value) (newId : String) (oc : Value) (od : Option Addr) (es : Array DictEntry) (ep : Nat) (sl : Array (Option Value)),
    K.lookup C = some (excClassObj nm q C N bs [.type "object"] hdct sn sub ab col dd k0 k1 k2 k3 k5 newId) ∧ K.lookup N = some ⟨oc, od, .dict es ep, sl⟩ ∧ StrKeys es ∧ nsFind es "__eq__" = some (.ref g) ∧ nsFind es "__ne__" = none ∧ K.lookup g = some of ∧ of.cls = .type "function"
theorem NeK.own {K : PySem.W.Frag} {C g a dx : Addr} {h : Heap} (N : NeK K C g) (X : K.In h) (e : h.get? a = some (PySem.W.instObj C dx)) : h.OwnEqNoNe a C g "object" [.type "object"] := by
  obtain ⟨of, nm, q, Na, bs, hdct, sn, sub, ab, col, dd, k0, k1, k2, k3, k5, newId, oc, od, es, ep, sl, h1, h2, h3, h4, h5, h6, h7⟩ := N.ex
  exact ⟨_, of, nm, q, Na, bs, hdct, sn, sub, ab, col, dd, k0, k1, k2, k3, k5, newId, nsFind es, _, e, rfl, X _ _ h1, ⟨_, es, ep, X _ _ h2, rfl, h3, fun _ => rfl⟩, h4, X _ _ h6, h7, PySem.F.cmp_object.mro, PySem.F.cmp_object.eq.lookup, h5⟩
/-- x != y, both instances of C -/
def rNeO (C : Addr) (sp : Sp) (E : XK) : R2 := fun x y H Q => ∃ a dx fs b dy gs, x = .ref a ∧ y = .ref b ∧ H a = some (.ins C dx fs) ∧ H b = some (.ins C dy gs) ∧ sp [x, y] H (fun v H' => ∃ c, v = .bl c ∧ Q (.bl (!c)) H') E
theorem op_neO (N : NeK X.K C g) (F : FnR X.prog X.w X.K X.mg X.base CX n g sp) (hr : Room (n + 1) X.A) (hx : Passes CX X E) : OpR X (compareOp .NotEq) (rNeO C sp E) := by
  intro pins s σ H x y v u Q I rx ry h
  obtain ⟨a, dx, fs, b, dy, gs, rfl, rfl, ha, hb, q⟩ := h
  cases (show v = Value.ref a from rx)
  cases (show u = Value.ref b from ry)
  obtain ⟨mA, J, _⟩ := ins_get I.hok ha
  obtain ⟨mB, J', _⟩ := ins_get I.hok hb
  have hr1 : Room n X.A.in1 := Room.in1 hr
  have hu : X.A.units + 1 < cLine := hu_of hr
  have O := N.own I.kIn J.obj
  obtain ⟨hp, gg, d, tk, os⟩ := s
  refine compareOp_ne_ownEq PySem.F.cmp_object O J'.obj rfl hu (wpAny_mono (wpAny_call (SlX.run_at (us := [.ref a, .ref b]) (ws := [.ref a, .ref b]) F hr1 I.env0.in1 hx I (.cons rfl (.cons rfl .nil)) q)) (fun v s' z => ?_) fun _ _ x => x)
  obtain ⟨z', H', I', rz, ⟨c, rfl, qz⟩⟩ := z
  cases (show v = Value.bool c from rz)
  exact ⟨c, rfl, .bl (!c), H', I', rfl, qz⟩
end
end VG

set_option maxRecDepth 100000
/-! What the head is to tell of an own class with an __eq__, as a Bool. -/
namespace VG
open PySem PySem.Spec PyProof.Rows L2
def strKeysB (es : Array DictEntry) : Bool := es.toList.all fun e => match e.key with
  | .str _ _ => true
  | _ => false
theorem strKeysB_ok {es : Array DictEntry} (h : strKeysB es = true) : StrKeys es := fun e he => by
  have z := List.all_eq_true.mp h e (Array.mem_toList_iff.mpr he)
  split at z
  · rename_i n t q
    exact ⟨n, t, q⟩
  · cases z
def neB (K : PySem.W.Frag) (C g : Addr) : Bool := (match K.lookup C with
  | some ⟨.type t, _, .cls cd, sl⟩ => decide (t = "type") && (match cd.mro, sl.toList with
    | [.ref C', .type o], [_, _, _, _, some (.builtin _), _] => decide (C' = C) && (decide (o = "object") && (!cd.hasDel && (match K.lookup cd.ns with
      | some ⟨_, _, .dict es _, _⟩ => strKeysB es && (decide (nsFind es "__eq__" = some (.ref g)) && decide (nsFind es "__ne__" = none))
      | _ => false)))
    | _, _ => false)
  | _ => false) && (match K.lookup g with
  | some ⟨.type t, _, _, _⟩ => decide (t = "function")
  | _ => false)
theorem neB_ok {K : PySem.W.Frag} {C g : Addr} (h : neB K C g = true) : NeK K C g := by
  unfold neB at h
  obtain ⟨h, hg⟩ := Bool.and_eq_true_iff.mp h
  split at hg
  · rename_i tg og dg sg eg
    have htg : tg = "function" := of_decide_eq_true hg
    subst htg
    split at h
    · rename_i t dd cd sl e
      obtain ⟨h1, h2⟩ := Bool.and_eq_true_iff.mp h
      have ht : t = "type" := of_decide_eq_true h1
      split at h2
      · rename_i C' o a0 a1 a2 a3 n a5 e1 e2
        simp only [Bool.and_eq_true, decide_eq_true_eq, Bool.not_eq_true'] at h2
        obtain ⟨g1, g2, g3, g4⟩ := h2
        split at g4
        · rename_i oc od es ep sl2 e3
          simp only [Bool.and_eq_true, decide_eq_true_eq] at g4
          obtain ⟨q1, q2, q3⟩ := g4
          subst ht g1 g2
          obtain ⟨c1, c2, c3, c4, c5, c6, c7, c8, c9, c10, c11⟩ := cd
          have e1 : c3 = [.ref C', .type "object"] := e1
          have g3 : c11 = false := g3
          subst e1 g3
          have es' : sl = #[a0, a1, a2, a3, some (.builtin n), a5] := Array.toList_inj.mp e2
          subst es'
          exact ⟨_, c1, c5, c4, c2, c6, c7, c8, c9, c10, dd, a0, a1, a2, a3, a5, n, oc, od, es, ep, sl2, e, e3, strKeysB_ok q1, q2, q3, eg, rfl⟩
        · cases g4
      · cases h2
    · cases h
  · cases hg
/-- isinstance of its instances -/
def insB (K : PySem.W.Frag) (C : Addr) : Bool := decide (PySem.W.findIn K (.ref C) "__class__" = some (some (.builtin "object.__class__"))) && (decide (PySem.W.specialIn K (.builtin "object.__class__") "__get__" = some (some (.builtin "getset_descriptor.__get__"))) &&
  (decide (PySem.W.takesIn K (.builtin "object.__class__") = some true) && (decide (PySem.W.mroIn K C (.type "object") = some true) && decide (PySem.W.kitOne K (.ref C) (.ref C) = some true))))
theorem insB_ok {K : PySem.W.Frag} {C : Addr} (h : insB K C = true) : PySem.W.findIn K (.ref C) "__class__" = some (some (.builtin "object.__class__")) ∧ PySem.W.specialIn K (.builtin "object.__class__") "__get__" = some (some (.builtin "getset_descriptor.__get__")) ∧
    PySem.W.takesIn K (.builtin "object.__class__") = some true ∧ PySem.W.mroIn K C (.type "object") = some true ∧ PySem.W.kitOne K (.ref C) (.ref C) = some true := by
  unfold insB at h
  simp only [Bool.and_eq_true, decide_eq_true_eq] at h
  exact h
end VG

set_option maxRecDepth 100000
/-! A hook that tells the getters of properties too. -/
namespace VG
open PySem PySem.Spec PyProof.Rows L2
open He (ba Fa DefD Defn)
/-- a property, as its getter is written -/
structure ProD where
  cls : Str
  name : Str
  st : Stmt
def ProD.qual (d : ProD) : Str := d.cls ++ "." ++ d.name
def ProD.p (K : PySem.W.Frag) (d : ProD) : Addr := He.ma K (He.ga K d.cls) d.name
def ProD.g (K : PySem.W.Frag) (d : ProD) : Addr := match PySem.W.recIn K (d.p K) "property" with
  | some (.ref g :: _) => g
  | _ => 0
def fnP (K : PySem.W.Frag) (g : Addr) : He.FnW := match K.lookup g with
  | some ⟨_, _, .func fd, _⟩ => some (fd.name, fd.qualname, fd.params, fd.body, fd.scope, fd.globals, fd.closure, fd.builtins)
  | _ => none
def ProD.val (d : ProD) : He.FnW := some (d.name, d.qual, defArgs d.st, .stmts (defBody d.st), defScope d.st, mainGlobals, [], builtinsNs)
def proB (K : PySem.W.Frag) (d : ProD) : Bool := He.eqO (PySem.W.findIn K (.ref (He.ga K d.cls)) d.name) (some (some (.ref (d.p K)))) && (He.eqO (PySem.W.specialIn K (.ref (d.p K)) "__get__") (some (some (.builtin "property.__get__"))) &&
  (decide (PySem.W.takesIn K (.ref (d.p K)) = some true) && (PySem.W.keepIn K (.ref (d.g K)) && ((match PySem.W.recIn K (d.p K) "property" with
    | some (.ref _ :: _) => true
    | _ => false) && match K.lookup (d.g K) with
    | some ⟨_, _, .func fd, _⟩ => PySem.W.codeIn K fd.code d.qual && (He.dflB K fd.defaults [] && He.kwdB K fd.kwdefaults [])
    | _ => false))))
theorem proB_ok {K : PySem.W.Frag} {d : ProD} (e : fnP K (d.g K) = d.val) (c : proB K d = true) : PropOf K (He.ga K d.cls) d.name (d.p K) (d.g K) ∧ ∃ fd, FunD K d.name d.qual (defArgs d.st) (defBody d.st) (defScope d.st) [] [] (d.g K) fd := by
  obtain ⟨c1, c⟩ := ba c
  obtain ⟨c2, c⟩ := ba c
  obtain ⟨c3, c⟩ := ba c
  obtain ⟨kp, c⟩ := ba c
  obtain ⟨c4, c2'⟩ := ba c
  have hr : ∃ rest, PySem.W.recIn K (d.p K) "property" = some (.ref (d.g K) :: rest) := by
    unfold ProD.g
    split at c4
    · rename_i g rest hg
      exact ⟨rest, by rw [hg]⟩
    · cases c4
  refine ⟨⟨He.eqO_ok c1, He.eqO_ok c2, of_decide_eq_true c3, hr⟩, ?_⟩
  unfold fnP at e
  cases q : K.lookup (d.g K) with
  | none =>
    rw [q] at c2'
    cases c2'
  | some o =>
    obtain ⟨oc, od, dt, osl⟩ := o
    rw [q] at c2' e
    cases dt with
    | func fd =>
      obtain ⟨n1, n2, n3, n4, n5, n6, n7, n8, n9, n10, n11, n12, n13, n14, n15⟩ := fd
      have e2 : (some (n1, n2, n3, n4, n5, n6, n7, n15) : He.FnW) = some (d.name, d.qual, defArgs d.st, .stmts (defBody d.st), defScope d.st, mainGlobals, [], builtinsNs) := e
      simp only [Option.some.injEq, Prod.mk.injEq] at e2
      obtain ⟨h1, h2, h3, h4, h5, h6, h7, h8⟩ := e2
      subst h1 h2 h3 h4 h5 h6 h7 h8
      have c3 : (PySem.W.codeIn K n13 d.qual && (He.dflB K n8 [] && He.kwdB K n9 [])) = true := c2'
      obtain ⟨k1, k2⟩ := ba c3
      obtain ⟨k3, k4⟩ := ba k2
      exact ⟨_, ⟨oc, od, n8, n9, n10, n11, n12, n13, n14, osl, rfl, q, k1, He.dflB_ok k3, He.kwdB_ok k4⟩, kp⟩
    | _ => cases e
abbrev AlP : Type := AlI × List He.FnW
section
variable {n : Nat} {fa : List Fa} {fn : List DefD} {tf : List Defn} {ex : PySem.W.Frag → Bool} {ins : List IniD} {pro : List ProD}
def obsP (n : Nat) (fa : List Fa) (fn : List DefD) (tf : List Defn) (ex : PySem.W.Frag → Bool) (ins : List IniD) (pro : List ProD) (g : Addr → Option Obj) : AlP :=
  (obsI n fa fn tf ex ins g, pro.map fun d => fnP (He.frT g (asI g n)) (d.g (He.frT g (asI g n))))
structure SaysP (fa : List Fa) (fn : List DefD) (tf : List Defn) (ex : PySem.W.Frag → Bool) (ins : List IniD) (pro : List ProD) (w : World) (h : Heap) (K : PySem.W.Frag) : Prop where
  i : SaysI fa fn tf ex ins w h K
  pro_ : ∀ d ∈ pro, fnP K (d.g K) = d.val
theorem saysP_of {w : World} {h : Heap} (e : obsP n fa fn tf ex ins pro h.get? = ((He.valX fn [] w, ins.map IniD.val), pro.map ProD.val)) : SaysP fa fn tf ex ins pro w h (He.frT h.get? (asI h.get? n)) := by
  have e1 : obsI n fa fn tf ex ins h.get? = (He.valX fn [] w, ins.map IniD.val) := congrArg (fun z : AlP => z.1) e
  have e2 : (pro.map fun d => fnP (He.frT h.get? (asI h.get? n)) (d.g (He.frT h.get? (asI h.get? n)))) = pro.map ProD.val := congrArg (fun z : AlP => z.2) e
  exact ⟨saysI_of e1, fun d hd => List.map_inj_left.mp e2 d hd⟩
def hookP (n : Nat) (fa : List Fa) (fn : List DefD) (tf : List Defn) (ex : PySem.W.Frag → Bool) (ins : List IniD) (pro : List ProD) : PySem.W.Hook where
  α := AlP
  obs := fun s => obsP n fa fn tf ex ins pro s.heap.get?
  val := fun w => ((He.valX fn [] w, ins.map IniD.val), pro.map ProD.val)
  says := fun w h => ∃ K : PySem.W.Frag, K.In h ∧ SaysP fa fn tf ex ins pro w h K
  of := fun _ _ e => ⟨_, He.frT_in, saysP_of e⟩
  keeps := fun _ _ _ ⟨K, hK, c⟩ k => ⟨K, PySem.W.Frag.In.keeps hK k, ⟨⟨c.i.x.t, c.i.x.more, c.i.x.hd, c.i.x.out, fun p hp => k _ _ (c.i.x.empty p hp)⟩, c.i.ini⟩, c.pro_⟩
theorem obsP_eq {g : Addr → Option Obj} {s : Shared} (h : ∀ a, g a = s.heap.get? a) : obsP n fa fn tf ex ins pro g = (hookP n fa fn tf ex ins pro).obs s := by
  have e : g = s.heap.get? := funext h
  rw [e] <;> rfl
end
/-! ### a constant read off the class; a default that is an empty tuple -/
def cvalB (K : PySem.W.Frag) (C f : Str) (i : Int) : Bool := PySem.W.readsIn K (He.ga K C) (.type "type") && (He.eqO (PySem.W.specialIn K (.ref (He.ga K C)) "__getattribute__") (some (some (.builtin "type.__getattribute__"))) &&
  match PySem.W.findCls K (.ref (He.ga K C)) (.type "type") f with
  | some (.val (.int j _)) => decide (j = i)
  | _ => false)
theorem cvalB_ok {K : PySem.W.Frag} {C f : Str} {i : Int} (h : cvalB K C f i = true) : ∃ u, ClX.CRead K (He.ga K C) (.type "type") ∧ ClX.CVal K (He.ga K C) (.type "type") f (.int i) u := by
  obtain ⟨h1, h⟩ := ba h
  obtain ⟨h2, h3⟩ := ba h
  split at h3
  · rename_i j t hj
    exact ⟨_, ⟨h1, He.eqO_ok h2⟩, hj, t, by rw [of_decide_eq_true h3]⟩
  · cases h3
def nilB (K : PySem.W.Frag) (e : Addr) : Bool := match K.lookup e with
  | some ⟨.type c, _, .seq its _, _⟩ => decide (c = "tuple") && decide (its = #[])
  | _ => false
theorem nilB_ok {K : PySem.W.Frag} {e : Addr} (h : nilB K e = true) (H : Hp) : SqT K H e [] := by
  unfold nilB at h
  split at h
  · rename_i c od its m osl q
    obtain ⟨h1, h2⟩ := ba h
    have e1 := of_decide_eq_true h1
    have e2 := of_decide_eq_true h2
    subst e1 e2
    exact .inr ⟨_, #[], m, q, rfl, rfl, by decide, .nil⟩
  · cases h
end VG

set_option maxRecDepth 100000
/-! The hook of V3 over fewer objects: a few steps, then what the told methods name. -/
namespace VG
open PySem PySem.Spec PyProof.Rows L2
open He (ba Fa DefD Defn)
/-- what some objects name -/
def grow1 (g : Addr → Option Obj) (as : List Addr) : List Addr := as.flatMap fun a => match g a with
  | some o => He.refsD o
  | none => []
/-- the methods that are told -/
def selQ (fn : List DefD) (ins : List IniD) (pro : List ProD) (K : PySem.W.Frag) : List Addr := (fn.flatMap fun d => match d.at_.2 with
  | some _ => [He.fAd K d.at_]
  | none => []) ++ (ins.map (fun d => He.fAd K d.at_) ++ pro.map fun d => d.p K)
def tailQ (g : Addr → Option Obj) (s1 : List Addr) : List Addr := s1 ++ (grow1 g s1 ++ grow1 g (grow1 g s1))
def asQ (g : Addr → Option Obj) (n : Nat) (fn : List DefD) (ins : List IniD) (pro : List ProD) : List Addr := asI g n ++ tailQ g (selQ fn ins pro (He.frT g (asI g n)))
section
variable {n : Nat} {fa : List Fa} {fn : List DefD} {tf : List Defn} {ex : PySem.W.Frag → Bool} {ins : List IniD} {pro : List ProD}
def obsQ (n : Nat) (fa : List Fa) (fn : List DefD) (tf : List Defn) (ex : PySem.W.Frag → Bool) (ins : List IniD) (pro : List ProD) (g : Addr → Option Obj) : AlP :=
  (((He.obsT fa fn [] (He.frT g (asQ g n fn ins pro)), ex (He.frT g (asQ g n fn ins pro)) && He.tabsB g tf (He.frT g (asQ g n fn ins pro))), ins.map fun d => fnI (He.frT g (asQ g n fn ins pro)) d.at_), pro.map fun d => fnP (He.frT g (asQ g n fn ins pro)) (d.g (He.frT g (asQ g n fn ins pro))))
theorem saysQ_of {w : World} {h : Heap} (e : obsQ n fa fn tf ex ins pro h.get? = ((He.valX fn [] w, ins.map IniD.val), pro.map ProD.val)) : SaysP fa fn tf ex ins pro w h (He.frT h.get? (asQ h.get? n fn ins pro)) := by
  generalize hK : He.frT h.get? (asQ h.get? n fn ins pro) = K at *
  have e1 : He.obsT fa fn [] K = He.valT fn [] w := by
    have z := congrArg (fun z : AlP => z.1.1.1) e
    unfold obsQ at z
    rw [hK] at z
    exact z
  have e2 : (ex K && He.tabsB h.get? tf K) = true := by
    have z := congrArg (fun z : AlP => z.1.1.2) e
    unfold obsQ at z
    rw [hK] at z
    exact z
  have e3 : (ins.map fun d => fnI K d.at_) = ins.map IniD.val := by
    have z := congrArg (fun z : AlP => z.1.2) e
    unfold obsQ at z
    rw [hK] at z
    exact z
  have e4 : (pro.map fun d => fnP K (d.g K)) = pro.map ProD.val := by
    have z := congrArg (fun z : AlP => z.2) e
    unfold obsQ at z
    rw [hK] at z
    exact z
  obtain ⟨h1, h2⟩ := ba e2
  have tabs : ∀ p ∈ tf, PySem.W.codeHdIn K (He.cT K p).1 (He.cT K p).2 = true ∧ ∃ o, h.get? (He.cT K p).2 = some o ∧ He.emptyTab o = true := fun p hp => by
    obtain ⟨h3, h4⟩ := ba (List.all_eq_true.mp h2 p hp)
    match q : h.get? (He.cT K p).2 with
    | none =>
      rw [q] at h4
      cases h4
    | some o =>
      rw [q] at h4
      exact ⟨h3, o, rfl, h4⟩
  refine ⟨⟨⟨e1, h1, fun p hp => (tabs p hp).1, fun p hp => ?_, fun p hp => ?_⟩, fun d hd => ?_⟩, fun d hd => ?_⟩
  · obtain ⟨_, o, q, z⟩ := tabs p hp
    rw [← hK] at q ⊢
    exact He.frT_none q z
  · obtain ⟨_, o, q, z⟩ := tabs p hp
    rw [q, He.emptyTab_eq z]
  · exact List.map_inj_left.mp e3 d hd
  · exact List.map_inj_left.mp e4 d hd
def hookQ (n : Nat) (fa : List Fa) (fn : List DefD) (tf : List Defn) (ex : PySem.W.Frag → Bool) (ins : List IniD) (pro : List ProD) : PySem.W.Hook where
  α := AlP
  obs := fun s => obsQ n fa fn tf ex ins pro s.heap.get?
  val := fun w => ((He.valX fn [] w, ins.map IniD.val), pro.map ProD.val)
  says := fun w h => ∃ K : PySem.W.Frag, K.In h ∧ SaysP fa fn tf ex ins pro w h K
  of := fun _ _ e => ⟨_, He.frT_in, saysQ_of e⟩
  keeps := fun _ _ _ ⟨K, hK, c⟩ k => ⟨K, PySem.W.Frag.In.keeps hK k, ⟨⟨c.i.x.t, c.i.x.more, c.i.x.hd, c.i.x.out, fun p hp => k _ _ (c.i.x.empty p hp)⟩, c.i.ini⟩, c.pro_⟩
theorem obsQ_eq {g : Addr → Option Obj} {s : Shared} (h : ∀ a, g a = s.heap.get? a) : obsQ n fa fn tf ex ins pro g = (hookQ n fa fn tf ex ins pro).obs s := by
  have e : g = s.heap.get? := funext h
  rw [e] <;> rfl
end
end VG

set_option maxRecDepth 100000
/-! The hook of V5 beside tables at the top (dict displays): errors' inits, properties' getters and tables at once. -/
namespace VG
open PySem PySem.Spec PyProof.Rows L2
open He (ba Fa DefD Defn Tab)
section
variable {n : Nat} {fa : List Fa} {fn : List DefD} {tf : List Defn} {ex : PySem.W.Frag → Bool} {ins : List IniD} {pro : List ProD} {ts : List Tab}
def obsR (n : Nat) (fa : List Fa) (fn : List DefD) (ts : List Tab) (tf : List Defn) (ex : PySem.W.Frag → Bool) (ins : List IniD) (pro : List ProD) (g : Addr → Option Obj) : AlP :=
  (((He.obsT fa fn ts (He.frT g (asQ g n fn ins pro)), ex (He.frT g (asQ g n fn ins pro)) && He.tabsB g tf (He.frT g (asQ g n fn ins pro))), ins.map fun d => fnI (He.frT g (asQ g n fn ins pro)) d.at_), pro.map fun d => fnP (He.frT g (asQ g n fn ins pro)) (d.g (He.frT g (asQ g n fn ins pro))))
/-- what it says: the facts with the tables, then the inits and the getters -/
structure SaysR (fa : List Fa) (fn : List DefD) (ts : List Tab) (tf : List Defn) (ex : PySem.W.Frag → Bool) (ins : List IniD) (pro : List ProD) (w : World) (h : Heap) (K : PySem.W.Frag) : Prop where
  x : He.SaysX fa fn ts tf ex w h K
  ini : ∀ d ∈ ins, fnI K d.at_ = d.val
  pro_ : ∀ d ∈ pro, fnP K (d.g K) = d.val
theorem saysR_of {w : World} {h : Heap} (e : obsR n fa fn ts tf ex ins pro h.get? = ((He.valX fn ts w, ins.map IniD.val), pro.map ProD.val)) : SaysR fa fn ts tf ex ins pro w h (He.frT h.get? (asQ h.get? n fn ins pro)) := by
  generalize hK : He.frT h.get? (asQ h.get? n fn ins pro) = K at *
  have e1 : He.obsT fa fn ts K = He.valT fn ts w := by
    have z := congrArg (fun z : AlP => z.1.1.1) e
    unfold obsR at z
    rw [hK] at z
    exact z
  have e2 : (ex K && He.tabsB h.get? tf K) = true := by
    have z := congrArg (fun z : AlP => z.1.1.2) e
    unfold obsR at z
    rw [hK] at z
    exact z
  have e3 : (ins.map fun d => fnI K d.at_) = ins.map IniD.val := by
    have z := congrArg (fun z : AlP => z.1.2) e
    unfold obsR at z
    rw [hK] at z
    exact z
  have e4 : (pro.map fun d => fnP K (d.g K)) = pro.map ProD.val := by
    have z := congrArg (fun z : AlP => z.2) e
    unfold obsR at z
    rw [hK] at z
    exact z
  obtain ⟨h1, h2⟩ := ba e2
  have tabs : ∀ p ∈ tf, PySem.W.codeHdIn K (He.cT K p).1 (He.cT K p).2 = true ∧ ∃ o, h.get? (He.cT K p).2 = some o ∧ He.emptyTab o = true := fun p hp => by
    obtain ⟨h3, h4⟩ := ba (List.all_eq_true.mp h2 p hp)
    match q : h.get? (He.cT K p).2 with
    | none =>
      rw [q] at h4
      cases h4
    | some o =>
      rw [q] at h4
      exact ⟨h3, o, rfl, h4⟩
  refine ⟨⟨e1, h1, fun p hp => (tabs p hp).1, fun p hp => ?_, fun p hp => ?_⟩, fun d hd => ?_, fun d hd => ?_⟩
  · obtain ⟨_, o, q, z⟩ := tabs p hp
    rw [← hK] at q ⊢
    exact He.frT_none q z
  · obtain ⟨_, o, q, z⟩ := tabs p hp
    rw [q, He.emptyTab_eq z]
  · exact List.map_inj_left.mp e3 d hd
  · exact List.map_inj_left.mp e4 d hd
def hookR (n : Nat) (fa : List Fa) (fn : List DefD) (ts : List Tab) (tf : List Defn) (ex : PySem.W.Frag → Bool) (ins : List IniD) (pro : List ProD) : PySem.W.Hook where
  α := AlP
  obs := fun s => obsR n fa fn ts tf ex ins pro s.heap.get?
  val := fun w => ((He.valX fn ts w, ins.map IniD.val), pro.map ProD.val)
  says := fun w h => ∃ K : PySem.W.Frag, K.In h ∧ SaysR fa fn ts tf ex ins pro w h K
  of := fun _ _ e => ⟨_, He.frT_in, saysR_of e⟩
  keeps := fun _ _ _ ⟨K, hK, c⟩ k => ⟨K, PySem.W.Frag.In.keeps hK k, ⟨c.x.t, c.x.more, c.x.hd, c.x.out, fun p hp => k _ _ (c.x.empty p hp)⟩, c.ini, c.pro_⟩
theorem obsR_eq {g : Addr → Option Obj} {s : Shared} (h : ∀ a, g a = s.heap.get? a) : obsR n fa fn ts tf ex ins pro g = (hookR n fa fn ts tf ex ins pro).obs s := by
  have e : g = s.heap.get? := funext h
  rw [e] <;> rfl
end
end VG

set_option maxRecDepth 100000
/-! Statements that are not reached; comprehensions within comprehensions; heaps without some objects; lists that grow; methods called with keywords. -/
namespace VG
open PySem PySem.Spec PyProof.Rows L2
theorem ps_false {X : Cx} {st : Stmt} : PS X st (fun _ _ _ => False) := ⟨fun _ _ _ _ _ _ h => h.elim⟩
theorem pss_false {X : Cx} {st : List Stmt} : PSs X st (fun _ _ _ => False) := ⟨fun _ _ _ _ _ _ h => h.elim⟩
/-! ### scopes of comprehensions within comprehensions -/
def retE (st : Stmt) : Expr := match (defBody st).getLast? with
  | some (.Return (some e) _) => e
  | _ => .List [] ⟨0, 0, 0, 0⟩
def lcScope (d : Scope) : Expr → Scope
  | .ListComp _ _ sc _ => sc
  | _ => d
def lcElt : Expr → Expr
  | .ListComp e _ _ _ => e
  | e => e
theorem blkOk_in {N : List Str} {sc sc' scope : Scope} {own : List (Str × Nat)} (e : sc' = sc) (h : blkC N sc scope own = true) : BlkOk N sc' scope own := by
  subst e
  exact blkOk_by h
/-! ### heaps without some objects -/
def wos (S : List Addr) (G : Hp) : Hp := fun b => if b ∈ S then none else G b
theorem wos_in {S : List Addr} {G : Hp} {b : Addr} (h : b ∈ S) : wos S G b = none := if_pos h
theorem wos_out {S : List Addr} {G : Hp} {b : Addr} (h : b ∉ S) : wos S G b = G b := if_neg h
theorem wos_mono {S S' : List Addr} {G G' : Hp} (s : ∀ b ∈ S', b ∈ S) (e : Same G G') : Same (wos S G) (wos S' G') := fun b o h => by
  by_cases z : b ∈ S
  · rw [wos_in z] at h
    cases h
  · rw [wos_out z] at h
    rw [wos_out fun y => z (s b y)]
    exact e b o h
theorem wos_sub {S : List Addr} {G : Hp} : Same (wos S G) G := fun b o h => by
  by_cases z : b ∈ S
  · rw [wos_in z] at h
    cases h
  · rw [wos_out z] at h
    exact h
theorem wos_less {S S' : List Addr} {G : Hp} (s : ∀ b ∈ S', b ∈ S) : Same (wos S G) (wos S' G) := wos_mono s (Same.refl G)
theorem wos_upd {S : List Addr} {G : Hp} {T : Addr} {o : HO} (h : T ∈ S) : wos S (upd G T o) = wos S G := by
  funext b
  by_cases z : b ∈ S
  · rw [wos_in z, wos_in z]
  · rw [wos_out z, wos_out z, upd_ne fun y => z (by rw [y]; exact h)]
/-- all that is not in S stays -/
abbrev Exs (S : List Addr) (H H' : Hp) : Prop := Same (wos S H) (wos S H')
theorem Exs.of {S : List Addr} {G G' : Hp} (e : Same G G') : Exs S G G' := wos_mono (fun _ h => h) e
theorem Exs.but {S : List Addr} {p : Addr} {G G' : Hp} (h : p ∈ S) (e : ∀ b, b ≠ p → G' b = G b) : Exs S G G' := fun b o z => by
  by_cases y : b ∈ S
  · rw [wos_in y] at z
    cases z
  · rw [wos_out y] at z ⊢
    exact (e b fun x => y (x ▸ h)).trans z
theorem Exs.upd {S : List Addr} {G : Hp} {T : Addr} {o : HO} (h : T ∈ S) : Exs S G (upd G T o) := by
  intro b u z
  rw [wos_upd h]
  exact z
theorem Exs.on {S : List Addr} {G G' : Hp} {b : Addr} {o : HO} (e : Exs S G G') (h : b ∉ S) (z : G b = some o) : G' b = some o := by
  have y := e b o (by rw [wos_out h]; exact z)
  rw [wos_out h] at y
  exact y
theorem Exs.mono {S S' : List Addr} {G G' : Hp} (s : ∀ b ∈ S, b ∈ S') (e : Exs S G G') : Exs S' G G' := fun b o z => by
  by_cases y : b ∈ S'
  · rw [wos_in y] at z
    cases z
  · rw [wos_out y] at z ⊢
    exact e.on (fun x => y (s b x)) z
/-- a list that grows at D: what is in it so far stands without D and S -/
structure Acc (K : PySem.W.Frag) (S : List Addr) (D : Addr) (H : Hp) (ds : List PyData) : Prop where
  ex : ∃ acc, H D = some (.lst acc) ∧ DpAll K (wos (D :: S) H) acc ds
theorem Acc.start {K : PySem.W.Frag} {S : List Addr} {D : Addr} {H : Hp} : Acc K S D (upd H D (.lst [])) [] := ⟨⟨[], upd_same, .nil⟩⟩
theorem Acc.on {K : PySem.W.Frag} {S : List Addr} {D : Addr} {H H2 : Hp} {ds : List PyData} (c : Acc K S D H ds) (e : Exs (D :: S) H H2) (hD : ∀ o, H D = some o → H2 D = some o) : Acc K S D H2 ds := by
  obtain ⟨acc, h1, h2⟩ := c.ex
  exact ⟨⟨acc, hD _ h1, DpAll.same e _ _ h2⟩⟩
theorem Acc.more {K : PySem.W.Frag} {S : List Addr} {D : Addr} {H : Hp} {ds : List PyData} {d : PyData} {y : V} (c : Acc K S D H ds) (hy : Dp K (wos (D :: S) H) y d) :
    ∃ acc, H D = some (.lst acc) ∧ acc.length = ds.length ∧ Acc K S D (upd H D (.lst (acc ++ [y]))) (ds ++ [d]) := by
  obtain ⟨acc, h1, h2⟩ := c.ex
  refine ⟨acc, h1, DpAll.len h2, ⟨⟨_, upd_same, ?_⟩⟩⟩
  rw [wos_upd List.mem_cons_self]
  exact VG.DpAll.snoc hy h2
theorem Acc.done {K : PySem.W.Frag} {S : List Addr} {D : Addr} {H : Hp} {ds : List PyData} (c : Acc K S D H ds) (h : D ∉ S) : Dp K (wos S H) (.ref D) (.list ds) := by
  obtain ⟨acc, h1, h2⟩ := c.ex
  exact .lst (SqL.of (by rw [wos_out h]; exact h1)) (DpAll.same (wos_less fun b z => List.mem_cons_of_mem _ z) _ _ h2)
/-- what a list of data is -/
theorem dp_list {K : PySem.W.Frag} {H : Hp} {v : V} {ds : List PyData} (h : Dp K H v (.list ds)) : ∃ a xs, v = .ref a ∧ SqL K H a xs ∧ DpAll K H xs ds := by
  cases h with
  | lst a b => exact ⟨_, _, rfl, a, b⟩
theorem dp_tup {K : PySem.W.Frag} {H : Hp} {v : V} {ds : List PyData} (h : Dp K H v (.tuple ds)) : ∃ a xs, v = .ref a ∧ SqT K H a xs ∧ DpAll K H xs ds := by
  cases h with
  | tup a b => exact ⟨_, _, rfl, a, b⟩
theorem dp_int {K : PySem.W.Frag} {H : Hp} {v : V} {i : Int} (h : Dp K H v (.int i)) : v = .int i := by
  cases h
  rfl
theorem dp_bl {K : PySem.W.Frag} {H : Hp} {v : V} {i : Bool} (h : Dp K H v (.bool i)) : v = .bl i := by
  cases h
  rfl
theorem dpAll2 {K : PySem.W.Frag} {H : Hp} {xs : List V} {a b : PyData} (h : DpAll K H xs [a, b]) : ∃ x y, xs = [x, y] ∧ Dp K H x a ∧ Dp K H y b := by
  cases h with
  | cons h t =>
    cases t with
    | cons h' t =>
      cases t
      exact ⟨_, _, rfl, h, h'⟩
theorem dpAll3 {K : PySem.W.Frag} {H : Hp} {xs : List V} {a b c : PyData} (h : DpAll K H xs [a, b, c]) : ∃ x y z, xs = [x, y, z] ∧ Dp K H x a ∧ Dp K H y b ∧ Dp K H z c := by
  cases h with
  | cons h t =>
    obtain ⟨y, z, rfl, h2, h3⟩ := dpAll2 t
    exact ⟨_, _, _, rfl, h, h2, h3⟩
theorem DpAll.app {K : PySem.W.Frag} {H : Hp} : ∀ {xs ys : List V} {ds es : List PyData}, DpAll K H xs ds → DpAll K H ys es → DpAll K H (xs ++ ys) (ds ++ es)
  | _, _, _, _, .nil, h => h
  | _, _, _, _, .cons a t, h => .cons a (DpAll.app t h)
theorem DpAll.dropn {K : PySem.W.Frag} {H : Hp} : ∀ (n : Nat) {xs : List V} {ds : List PyData}, DpAll K H xs ds → DpAll K H (xs.drop n) (ds.drop n)
  | 0, _, _, h => h
  | n + 1, _, _, .nil => .nil
  | n + 1, _, _, .cons _ t => DpAll.dropn n t
theorem DpAll.takn {K : PySem.W.Frag} {H : Hp} : ∀ (n : Nat) {xs : List V} {ds : List PyData}, DpAll K H xs ds → DpAll K H (xs.take n) (ds.take n)
  | 0, _, _, _ => .nil
  | n + 1, _, _, .nil => .nil
  | n + 1, _, _, .cons a t => .cons a (DpAll.takn n t)
/-! ### methods called with keywords -/
/-- o.m(e, .., k = v, ..) -/
def tMethN (C : Addr) (m : Str) (n j : Nat) (sp : Sp) (gV : List V → List V → List V) (E : XK) (ta : TE) (t tk : TA) : TE := fun σ H Q => ta σ H fun x H1 => ∃ a dx fs, x = .ref a ∧ H1 a = some (.ins C dx fs) ∧ fs.lookup m = none ∧
  t σ H1 fun vs H2 => tk σ H2 fun zs H3 => vs.length = n ∧ zs.length = j ∧ sp (gV (x :: vs) zs) H3 Q E
section
variable {X : Cx} {CX : CXT} {k n : Nat} {C f : Addr} {m : Str} {fd : FuncData} {ps ks : List Str} {sp : Sp} {E : XK} {o e : Expr} {es : List Expr} {apos pos : Pos} {kws : List Keyword} {ta : TE} {t tk : TA} {g : List Value → List Value → List Value} {gV : List V → List V → List V}
theorem pe_methN {pl : Sem Bool} (he : PE X o ta) (c : Cls X.K C) (hm : Meth X.K C m f) (F : FnOk X.prog X.w X.K X.mg X.base CX k f fd ps sp) (hr : Room k X.A) (hb : KBn X.K fd ps (n + 1) ks g gV) (hx : Passes CX X E) (ha : PA X (e :: es) t) (hkw : PK X kws tk)
    (hall : (backToKw pos (keywordEach kws X.env)).all (·.1.isSome) = true := by rfl) (hks : (backToKw pos (keywordEach kws X.env)).filterMap (·.1) = ks := by rfl)
    (hst : starEach (e :: es) X.env = (false, eval e X.env) :: starEach es X.env := by rfl) (hpl : ((backTo pos (starEach (e :: es) X.env)).any (·.1) || (backToKw pos (keywordEach kws X.env)).any (·.1.isNone)) = false := by rfl)
    (ht : eval (.Call (.Attribute o m apos) (e :: es) kws pos) X.env = (do
      let ov ← eval o X.env
      standAt apos.atName
      let (f, first) ← holding [ov] (getMethod ov m pl)
      callWith pos f first (backTo pos (starEach (e :: es) X.env)) (backToKw pos (keywordEach kws X.env))) := by rfl) :
    PE X (.Call (.Attribute o m apos) (e :: es) kws pos) (tMethN C m n ks.length sp gV E ta t tk) := by
  refine ⟨fun pins s σ H Q I h => ?_⟩
  refine PySem.W.methodCall_KW (pl := pl) (thn (he.run pins s σ H _ I h) fun u s1 ⟨x, H1, I1, rx, a, dx, fs, ex, ea, l, q⟩ => ?_) ht
  subst ex
  obtain rfl : u = Value.ref a := rx
  refine getmeth_ok I1 ea c hm l ?_
  refine PySem.W.callWith_KW (first := [.ref a]) (h₀ := X.base) I.ok.mod.kin hm.kp hall (thn (ha.run pos pins s1 σ H1 _ I1 q) fun us s2 ⟨vs, H2, I2, r, q2⟩ => ?_) hpl hst
  refine thn (hkw.run pos pins s2 σ H2 _ I2 q2) fun ws s3 ⟨zs, H3, I3, rz, l1, l2, q3⟩ => ⟨I3.kIn, ?_⟩
  rw [hks]
  exact run_fnN (us := .ref a :: us) (vs := .ref a :: vs) F hr hb hx I3 (.cons rfl r) rz (by rw [List.length_cons, l1]) l2 q3
/-- o.m(k = v, ..) -/
theorem pe_methN0 {pl : Sem Bool} (he : PE X o ta) (c : Cls X.K C) (hm : Meth X.K C m f) (F : FnOk X.prog X.w X.K X.mg X.base CX k f fd ps sp) (hr : Room k X.A) (hb : KBn X.K fd ps 1 ks g gV) (hx : Passes CX X E) (hkw : PK X kws tk)
    (hall : (backToKw pos (keywordEach kws X.env)).all (·.1.isSome) = true := by rfl) (hks : (backToKw pos (keywordEach kws X.env)).filterMap (·.1) = ks := by rfl)
    (hpl : ((backTo pos (starEach [] X.env)).any (·.1) || (backToKw pos (keywordEach kws X.env)).any (·.1.isNone)) = false := by rfl)
    (ht : eval (.Call (.Attribute o m apos) [] kws pos) X.env = (do
      let ov ← eval o X.env
      standAt apos.atName
      let (f, first) ← holding [ov] (getMethod ov m pl)
      callWith pos f first (backTo pos (starEach [] X.env)) (backToKw pos (keywordEach kws X.env))) := by rfl) :
    PE X (.Call (.Attribute o m apos) [] kws pos) (tMethN C m 0 ks.length sp gV E ta tNil tk) := by
  refine ⟨fun pins s σ H Q I h => ?_⟩
  refine PySem.W.methodCall_KW (pl := pl) (thn (he.run pins s σ H _ I h) fun u s1 ⟨x, H1, I1, rx, a, dx, fs, ex, ea, l, q⟩ => ?_) ht
  subst ex
  obtain rfl : u = Value.ref a := rx
  refine getmeth_ok I1 ea c hm l ?_
  refine PySem.W.callWith_KW0 (first := [.ref a]) (h₀ := X.base) I.ok.mod.kin hm.kp hall (thn (hkw.run pos pins s1 σ H1 _ I1 q) fun ws s3 ⟨zs, H3, I3, rz, l1, l2, q3⟩ => ⟨I3.kIn, ?_⟩) hpl
  rw [hks]
  exact run_fnN (us := [.ref a]) (vs := [.ref a]) F hr hb hx I3 (.cons rfl .nil) rz rfl l2 q3
end
end VG

set_option maxRecDepth 100000
/-! C.m(k = v, ..), m a staticmethod of the class C. -/
namespace VG
open PySem PySem.Spec PyProof.Rows L2
/-- C.m is a staticmethod: its record at p, its def at g -/
structure SMet (K : PySem.W.Frag) (C : Addr) (mc : Value) (m : Str) (p g : Addr) : Prop where
  at_ : PySem.W.findCls K (.ref C) mc m = some (.get (.builtin "staticmethod.__get__") (.ref p) .none (.ref C))
  rc : ∃ rest, PySem.W.recIn K p "staticmethod" = some (.ref g :: rest)
  kp : PySem.W.keepIn K (.ref g) = true
def tSMethN (C : Addr) (j : Nat) (sp : Sp) (gV : List V → List V → List V) (E : XK) (ta : TE) (tk : TA) : TE := fun σ H Q => ta σ H fun x H1 => x = .ref C ∧ tk σ H1 fun zs H3 => zs.length = j ∧ sp (gV [] zs) H3 Q E
section
variable {X : Cx} {CX : CXT} {k : Nat} {C p f : Addr} {mc : Value} {m : Str} {fd : FuncData} {ps ks : List Str} {sp : Sp} {E : XK} {o : Expr} {apos pos : Pos} {kws : List Keyword} {ta : TE} {tk : TA} {g : List Value → List Value → List Value} {gV : List V → List V → List V}
theorem getsm_ok {pins : List (Addr × Obj)} {σ : L2.St} {H : Hp} {s : Shared} {A : Around} {E : Value → Shared → Prop} {pl : Sem Bool} {Q : Value × List Value → Shared → Prop} (I : Inv X pins σ H s) (r : ClX.CRead X.K C mc) (c : SMet X.K C mc m p f)
    (h : ∀ s', Inv X pins σ H s' → Q (.ref f, []) s') : wpAny (model X.prog X.w) A (getMethod (.ref C) m pl) Q E s := by
  obtain ⟨rest, hp⟩ := c.rc
  refine PySem.W.method_cls I.kIn r.ga ?_
  exact PySem.W.cls_bind I.kIn r.rd c.at_ (wpAny_call (PySem.W.sm_get (s := { s with toks := s.toks + 1 }) I.kIn hp (PySem.W.handed_on rfl (h _ (I.tok _)))))
theorem pe_smethN0 {pl : Sem Bool} (he : PE X o ta) (r : ClX.CRead X.K C mc) (c : SMet X.K C mc m p f) (F : FnOk X.prog X.w X.K X.mg X.base CX k f fd ps sp) (hr : Room k X.A) (hb : KBn X.K fd ps 0 ks g gV) (hx : Passes CX X E) (hkw : PK X kws tk)
    (hall : (backToKw pos (keywordEach kws X.env)).all (·.1.isSome) = true := by rfl) (hks : (backToKw pos (keywordEach kws X.env)).filterMap (·.1) = ks := by rfl)
    (hpl : ((backTo pos (starEach [] X.env)).any (·.1) || (backToKw pos (keywordEach kws X.env)).any (·.1.isNone)) = false := by rfl)
    (ht : eval (.Call (.Attribute o m apos) [] kws pos) X.env = (do
      let ov ← eval o X.env
      standAt apos.atName
      let (f, first) ← holding [ov] (getMethod ov m pl)
      callWith pos f first (backTo pos (starEach [] X.env)) (backToKw pos (keywordEach kws X.env))) := by rfl) :
    PE X (.Call (.Attribute o m apos) [] kws pos) (tSMethN C ks.length sp gV E ta tk) := by
  refine ⟨fun pins s σ H Q I h => ?_⟩
  refine PySem.W.methodCall_KW (pl := pl) (thn (he.run pins s σ H _ I h) fun u s1 ⟨x, H1, I1, rx, ex, q⟩ => ?_) ht
  subst ex
  obtain rfl : u = Value.ref C := rx
  refine getsm_ok I1 r c fun s2 I2 => ?_
  refine PySem.W.callWith_KW0 (first := []) (h₀ := X.base) I2.ok.mod.kin c.kp hall (thn (hkw.run pos pins s2 σ H1 _ I2 q) fun ws s3 ⟨zs, H3, I3, rz, l2, q3⟩ => ⟨I3.kIn, ?_⟩) hpl
  rw [hks]
  exact run_fnN (us := []) (vs := []) F hr hb hx I3 .nil rz rfl l2 q3
end
end VG

set_option maxRecDepth 100000
/-! The hook of V19 that tells the defs of staticmethods, too. -/
namespace VG
open PySem PySem.Spec PyProof.Rows L2
open He (ba Fa DefD Defn Tab)
/-- a staticmethod's def -/
def ProD.sg (K : PySem.W.Frag) (d : ProD) : Addr := He5.wf K (He.ga K d.cls) "staticmethod" d.name
def staB (K : PySem.W.Frag) (d : ProD) (kws : List (Str × V)) : Bool := He5.wrapB K (He.ga K d.cls) "staticmethod" "staticmethod.__get__" d.name && (PySem.W.keepIn K (.ref (d.sg K)) && (match K.lookup (d.sg K) with
    | some ⟨_, _, .func fd, _⟩ => PySem.W.codeIn K fd.code d.qual && (He.dflB K fd.defaults [] && He.kwdB K fd.kwdefaults kws)
    | _ => false))
theorem staB_ok {K : PySem.W.Frag} {d : ProD} {kws : List (Str × V)} (e : fnP K (d.sg K) = d.val) (c : staB K d kws = true) : SMet K (He.ga K d.cls) (.type "type") d.name (He.ma K (He.ga K d.cls) d.name) (d.sg K) ∧ ∃ fd, FunD K d.name d.qual (defArgs d.st) (defBody d.st) (defScope d.st) [] kws (d.sg K) fd := by
  obtain ⟨c1, c⟩ := ba c
  obtain ⟨kp, c2⟩ := ba c
  obtain ⟨a1, a2⟩ := He5.wrapB_ok c1
  refine ⟨⟨a1, a2, kp⟩, ?_⟩
  unfold fnP at e
  cases q : K.lookup (d.sg K) with
  | none =>
    rw [q] at c2
    cases c2
  | some o =>
    obtain ⟨oc, od, dt, osl⟩ := o
    rw [q] at c2 e
    cases dt with
    | func fd =>
      obtain ⟨n1, n2, n3, n4, n5, n6, n7, n8, n9, n10, n11, n12, n13, n14, n15⟩ := fd
      have e2 : (some (n1, n2, n3, n4, n5, n6, n7, n15) : He.FnW) = some (d.name, d.qual, defArgs d.st, .stmts (defBody d.st), defScope d.st, mainGlobals, [], builtinsNs) := e
      simp only [Option.some.injEq, Prod.mk.injEq] at e2
      obtain ⟨h1, h2, h3, h4, h5, h6, h7, h8⟩ := e2
      subst h1 h2 h3 h4 h5 h6 h7 h8
      have c3 : (PySem.W.codeIn K n13 d.qual && (He.dflB K n8 [] && He.kwdB K n9 kws)) = true := c2
      obtain ⟨k1, k2⟩ := ba c3
      obtain ⟨k3, k4⟩ := ba k2
      exact ⟨_, ⟨oc, od, n8, n9, n10, n11, n12, n13, n14, osl, rfl, q, k1, He.dflB_ok k3, He.kwdB_ok k4⟩, kp⟩
    | _ => cases e
/-- V5's objects, and what some defs of the top name -/
def asS (g : Addr → Option Obj) (n : Nat) (fn : List DefD) (ins : List IniD) (pro : List ProD) (xs : List Str) : List Addr := asQ g n fn ins pro ++ tailQ g (xs.map fun x => He.ga (He.frT g (asI g n)) x)
abbrev AlS : Type := AlP × List He.FnW
section
variable {n : Nat} {fa : List Fa} {fn : List DefD} {tf : List Defn} {ex : PySem.W.Frag → Bool} {ins : List IniD} {pro sta : List ProD} {xs : List Str} {ts : List Tab}
def obsS (n : Nat) (fa : List Fa) (fn : List DefD) (ts : List Tab) (tf : List Defn) (ex : PySem.W.Frag → Bool) (ins : List IniD) (pro sta : List ProD) (xs : List Str) (g : Addr → Option Obj) : AlS :=
  ((((He.obsT fa fn ts (He.frT g (asS g n fn ins (pro ++ sta) xs)), ex (He.frT g (asS g n fn ins (pro ++ sta) xs)) && He.tabsB g tf (He.frT g (asS g n fn ins (pro ++ sta) xs))), ins.map fun d => fnI (He.frT g (asS g n fn ins (pro ++ sta) xs)) d.at_), pro.map fun d => fnP (He.frT g (asS g n fn ins (pro ++ sta) xs)) (d.g (He.frT g (asS g n fn ins (pro ++ sta) xs)))),
    sta.map fun d => fnP (He.frT g (asS g n fn ins (pro ++ sta) xs)) (d.sg (He.frT g (asS g n fn ins (pro ++ sta) xs))))
structure SaysS (fa : List Fa) (fn : List DefD) (ts : List Tab) (tf : List Defn) (ex : PySem.W.Frag → Bool) (ins : List IniD) (pro sta : List ProD) (w : World) (h : Heap) (K : PySem.W.Frag) : Prop where
  x : He.SaysX fa fn ts tf ex w h K
  ini : ∀ d ∈ ins, fnI K d.at_ = d.val
  pro_ : ∀ d ∈ pro, fnP K (d.g K) = d.val
  sta_ : ∀ d ∈ sta, fnP K (d.sg K) = d.val
theorem saysS_of {w : World} {h : Heap} (e : obsS n fa fn ts tf ex ins pro sta xs h.get? = (((He.valX fn ts w, ins.map IniD.val), pro.map ProD.val), sta.map ProD.val)) : SaysS fa fn ts tf ex ins pro sta w h (He.frT h.get? (asS h.get? n fn ins (pro ++ sta) xs)) := by
  generalize hK : He.frT h.get? (asS h.get? n fn ins (pro ++ sta) xs) = K at *
  have e1 : He.obsT fa fn ts K = He.valT fn ts w := by
    have z := congrArg (fun z : AlS => z.1.1.1.1) e
    unfold obsS at z
    rw [hK] at z
    exact z
  have e2 : (ex K && He.tabsB h.get? tf K) = true := by
    have z := congrArg (fun z : AlS => z.1.1.1.2) e
    unfold obsS at z
    rw [hK] at z
    exact z
  have e3 : (ins.map fun d => fnI K d.at_) = ins.map IniD.val := by
    have z := congrArg (fun z : AlS => z.1.1.2) e
    unfold obsS at z
    rw [hK] at z
    exact z
  have e4 : (pro.map fun d => fnP K (d.g K)) = pro.map ProD.val := by
    have z := congrArg (fun z : AlS => z.1.2) e
    unfold obsS at z
    rw [hK] at z
    exact z
  have e5 : (sta.map fun d => fnP K (d.sg K)) = sta.map ProD.val := by
    have z := congrArg (fun z : AlS => z.2) e
    unfold obsS at z
    rw [hK] at z
    exact z
  obtain ⟨h1, h2⟩ := ba e2
  have tabs : ∀ p ∈ tf, PySem.W.codeHdIn K (He.cT K p).1 (He.cT K p).2 = true ∧ ∃ o, h.get? (He.cT K p).2 = some o ∧ He.emptyTab o = true := fun p hp => by
    obtain ⟨h3, h4⟩ := ba (List.all_eq_true.mp h2 p hp)
    match q : h.get? (He.cT K p).2 with
    | none =>
      rw [q] at h4
      cases h4
    | some o =>
      rw [q] at h4
      exact ⟨h3, o, rfl, h4⟩
  refine ⟨⟨e1, h1, fun p hp => (tabs p hp).1, fun p hp => ?_, fun p hp => ?_⟩, fun d hd => ?_, fun d hd => ?_, fun d hd => ?_⟩
  · obtain ⟨_, o, q, z⟩ := tabs p hp
    rw [← hK] at q ⊢
    exact He.frT_none q z
  · obtain ⟨_, o, q, z⟩ := tabs p hp
    rw [q, He.emptyTab_eq z]
  · exact List.map_inj_left.mp e3 d hd
  · exact List.map_inj_left.mp e4 d hd
  · exact List.map_inj_left.mp e5 d hd
def hookS (n : Nat) (fa : List Fa) (fn : List DefD) (ts : List Tab) (tf : List Defn) (ex : PySem.W.Frag → Bool) (ins : List IniD) (pro sta : List ProD) (xs : List Str) : PySem.W.Hook where
  α := AlS
  obs := fun s => obsS n fa fn ts tf ex ins pro sta xs s.heap.get?
  val := fun w => (((He.valX fn ts w, ins.map IniD.val), pro.map ProD.val), sta.map ProD.val)
  says := fun w h => ∃ K : PySem.W.Frag, K.In h ∧ SaysS fa fn ts tf ex ins pro sta w h K
  of := fun _ _ e => ⟨_, He.frT_in, saysS_of e⟩
  keeps := fun _ _ _ ⟨K, hK, c⟩ k => ⟨K, PySem.W.Frag.In.keeps hK k, ⟨c.x.t, c.x.more, c.x.hd, c.x.out, fun p hp => k _ _ (c.x.empty p hp)⟩, c.ini, c.pro_, c.sta_⟩
theorem obsS_eq {g : Addr → Option Obj} {s : Shared} (h : ∀ a, g a = s.heap.get? a) : obsS n fa fn ts tf ex ins pro sta xs g = (hookS n fa fn ts tf ex ins pro sta xs).obs s := by
  have e : g = s.heap.get? := funext h
  rw [e] <;> rfl
end
end VG

set_option maxRecDepth 100000
/-! x + y, x * y by an own __add__, __mul__: y of the same class, or of a built-in type. -/
namespace VG
open PySem PySem.Spec PyProof.Rows PySem.W L2
section
variable {prog : Program} {w : World} {A : Around} {E : Value → Shared → Prop} {s : Shared} {K : Frag} {x C L f : Addr} {h₀ : Heap} {m : Str → Option Value} {ox : Obj} {od : Option Obj} {T : String}
/-- the right side of a built-in type, wherever it stands -/
theorem binT {op : Operator} {b : Value} {fo ro rc : Option Value} {Q : Value → Shared → Prop} (F : Fr h₀ L s.heap m) (X₀ : K.In h₀) (I : InstAt s.heap x ox C od) (hb : Looks (model prog w) s.heap (typeOf b) (.type T)) (hc : selfFirst K C = true)
    (hs : findIn K (.ref C) (PySem.dunder op.info.2) = some (some (.ref f))) (hf : isFn K (.ref f) = true) (hr : findIn K (.ref C) (dunderR op.info.2) = some rc) (hp : rc = none ∨ ∃ g : Addr, rc = some (.ref g))
    (h1 : findIn K (.type T) (PySem.dunder op.info.2) = some fo) (h2 : findIn K (.type T) (dunderR op.info.2) = some ro) (hsub : subIn K (.type T) (.ref C) = some false)
    (h : wpAny (model prog w) A (call (.ref f) [.ref x, b]) (PySem.W.CmpBack Q) E s) : wpAny (model prog w) A (binaryOp op (.ref x) b) Q E s := by
  have X := X₀.keeps F.keep
  obtain ⟨cd, rest, hcd, hm⟩ := ksp_first hc
  rcases hi : op.info with ⟨sym, nm⟩
  rw [hi] at hs hr h1 h2
  have own := ksp_try X I hs hf h
  obtain ⟨hh, g, d, tt, os⟩ := s
  have tx : Looks (model prog w) hh (typeOf (.ref x)) (.ref C) := I.type
  have ty : Looks (model prog w) hh (typeOf b) (.type T) := hb
  have fx : Looks (model prog w) hh (fillsNumberSlot (.ref C) nm) true := fills_K X hcd hm hs
  have fy := ksp_fillsT (M := model prog w) X h1 h2
  have sy : Looks (model prog w) hh (isSubtype (.type T) (.ref C)) false := looks_subIn X hsub
  have px : Looks (model prog w) hh (numberSlotInPython (.ref C) nm) true := ksp_inPy X hs hr hp
  have py : Looks (model prog w) hh (numberSlotInPython (.type T) nm) false := Looks.of_pure rfl
  have ly : Looks (model prog w) hh (typeLookup (.type T) (dunderR nm)) ro := looks_findIn X h2
  generalize ((fo.isSome && !isSeqSlot fo) || (ro.isSome && !isSeqSlot ro)) = right at fy
  have ne : (Value.ref C == Value.type T) = false := rfl
  simp only [binaryOp, hi]
  refine wpAny_holding (wpAny_bind ?_)
  unfold binaryOp1
  refine wpAny_bind (tx.at (wpAny_bind (ty.at (wpAny_bind (fx.at ?_)))))
  simp only [ne, Bool.false_eq_true, if_false]
  cases right <;>
  · ksp_lk
    refine wpAny_mono own (fun r s' z => ?_) fun _ _ e => e
    obtain ⟨v, rfl, q⟩ := z
    ksp_lk
    exact q
end
section
variable {X : Cx} {CX : CXT} {C g : Addr} {n : Nat} {sp : Sp} {E : XK}
/-- x op y, x an instance of C, whose own method stands at g; y an instance of C too -/
def rBinS (C : Addr) (sp : Sp) (E : XK) : R2 := fun x y H Q => ∃ a dx fs b dy gs, x = .ref a ∧ y = .ref b ∧ H a = some (.ins C dx fs) ∧ H b = some (.ins C dy gs) ∧ sp [x, y] H Q E
theorem op_binS {op : Operator} (hs : findIn X.K (.ref C) (PySem.dunder op.info.2) = some (some (.ref g))) (hf : isFn X.K (.ref g) = true) (hc : selfFirst X.K C = true) (F : FnR X.prog X.w X.K X.mg X.base CX n g sp) (hr : Room n X.A) (hx : Passes CX X E) : OpR X (binaryOp op) (rBinS C sp E) := by
  intro pins s σ H x y v u Q I rx ry h
  obtain ⟨a, dx, fs, b, dy, gs, rfl, rfl, ha, hb, q⟩ := h
  cases (show v = Value.ref a from rx)
  cases (show u = Value.ref b from ry)
  obtain ⟨od, J⟩ := ins_inst I ha
  obtain ⟨od2, J2⟩ := ins_inst I hb
  obtain ⟨m, hF⟩ := I.fr
  refine binop_K hF I.ok.mod.kin J J2.type hc hs hf ?_
  refine wpAny_mono (wpAny_call (run_fnR (us := [.ref a, .ref b]) (vs := [.ref a, .ref b]) F hr hx I (.cons rfl (.cons rfl .nil)) q)) (fun w s' z => ?_) fun _ _ x => x
  obtain ⟨z', H', I', rz, qz⟩ := z
  exact SlX.cmpback rz ⟨z', H', I', rz, qz⟩
/-- x op y, y of a built-in type -/
def rBinT (K : Frag) (C : Addr) (ts : List String) (sp : Sp) (E : XK) : R2 := fun x y H Q => ∃ a dx fs t, x = .ref a ∧ H a = some (.ins C dx fs) ∧ TyX K H y (.type t) ∧ t ∈ ts ∧ sp [x, y] H Q E
/-- what the class, the types must say -/
structure BinK (K : Frag) (C g : Addr) (op : Operator) (ts : List String) : Prop where
  self : findIn K (.ref C) (PySem.dunder op.info.2) = some (some (.ref g))
  fn : isFn K (.ref g) = true
  first : selfFirst K C = true
  refl : findIn K (.ref C) (dunderR op.info.2) = some none
  ty : ∀ t ∈ ts, (∃ fo, findIn K (.type t) (PySem.dunder op.info.2) = some fo) ∧ (∃ ro, findIn K (.type t) (dunderR op.info.2) = some ro) ∧ subIn K (.type t) (.ref C) = some false
theorem op_binT {op : Operator} {ts : List String} (B : BinK X.K C g op ts) (F : FnR X.prog X.w X.K X.mg X.base CX n g sp) (hr : Room n X.A) (hx : Passes CX X E) : OpR X (binaryOp op) (rBinT X.K C ts sp E) := by
  intro pins s σ H x y v u Q I rx ry h
  obtain ⟨a, dx, fs, t, rfl, ha, ty, ht, q⟩ := h
  cases (show v = Value.ref a from rx)
  obtain ⟨od, J⟩ := ins_inst I ha
  obtain ⟨P, kx, kp, _⟩ := kit_of I ry ty
  obtain ⟨m, hF⟩ := I.fr
  obtain ⟨⟨fo, h1⟩, ⟨ro, h2⟩, h3⟩ := B.ty t ht
  refine binT hF I.ok.mod.kin J (kx.ty _ _ I.kIn kp) B.first B.self B.fn B.refl (.inl rfl) h1 h2 h3 ?_
  refine wpAny_mono (wpAny_call (run_fnR (us := [.ref a, u]) (vs := [.ref a, y]) F hr hx I (.cons rfl (.cons ry .nil)) q)) (fun w s' z => ?_) fun _ _ x => x
  obtain ⟨z', H', I', rz, qz⟩ := z
  exact SlX.cmpback rz ⟨z', H', I', rz, qz⟩
end
end VG

set_option maxRecDepth 100000
/-! Bools of a head: an own binary operator, a tuple of the top. -/
namespace VG
open PySem PySem.Spec PyProof.Rows PySem.W L2
def binB (K : Frag) (C g : Addr) (op : Operator) (ts : List String) : Bool :=
  decide (findIn K (.ref C) (PySem.dunder op.info.2) = some (some (.ref g))) && (isFn K (.ref g) && (selfFirst K C && (decide (findIn K (.ref C) (dunderR op.info.2) = some none) &&
    ts.all fun t => (findIn K (.type t) (PySem.dunder op.info.2)).isSome && ((findIn K (.type t) (dunderR op.info.2)).isSome && decide (subIn K (.type t) (.ref C) = some false)))))
theorem binB_ok {K : Frag} {C g : Addr} {op : Operator} {ts : List String} (h : binB K C g op ts = true) : BinK K C g op ts := by
  obtain ⟨h1, h⟩ := He.ba h
  obtain ⟨h2, h⟩ := He.ba h
  obtain ⟨h3, h⟩ := He.ba h
  obtain ⟨h4, h5⟩ := He.ba h
  refine ⟨of_decide_eq_true h1, h2, h3, of_decide_eq_true h4, fun t ht => ?_⟩
  obtain ⟨a, b⟩ := He.ba (List.all_eq_true.mp h5 t ht)
  obtain ⟨b, c⟩ := He.ba b
  exact ⟨Option.isSome_iff_exists.mp a, Option.isSome_iff_exists.mp b, of_decide_eq_true c⟩
def plainB (K : Frag) (x : Str) : Bool := match K.lookup (He.ga K x) with
  | some ⟨.type c, none, _, _⟩ => decide (c = "tuple")
  | _ => false
theorem plainB_ok {K : Frag} {x : Str} (h : plainB K x = true) : ∃ o, K.lookup (He.ga K x) = some o ∧ o.cls = Value.type "tuple" ∧ o.dict = none := by
  unfold plainB at h
  split at h
  · rename_i c d s q
    exact ⟨_, q, congrArg Value.type (of_decide_eq_true h), rfl⟩
  · cases h
end VG

set_option maxRecDepth 100000
/-! Own errors over any built-in class (LookupError, IndexError ..). -/
namespace VG
open PySem PySem.Spec PyProof.Rows L2
open Builtin Builtin.ObjectAttr

/-- a list of classes: own ones, then a built-in class's order; nothing among them refuses a store -/
structure Tail (bm : List Value) (B newId i : String) (bmB : List Value) : Prop where
  fb : ExcBaseFacts B newId i bmB
  same : ∀ X : String, bm.contains (.type X) = bmB.contains (.type X)
  pass : ∀ self, refuseLoop self "__setattr__" bm = pure ()
  obj : bm.contains (.type "object") = true
def refsX (t : List Value) : List Value → Bool
  | [] => false
  | a :: r => (a :: r == t) || (match a with
    | .ref _ => refsX t r
    | _ => false)
theorem refsX_tail {t : List Value} {B newId i : String} (fb : ExcBaseFacts B newId i t) (ps : ∀ self, refuseLoop self "__setattr__" t = pure ()) (ob : t.contains (.type "object") = true) : ∀ bm : List Value, refsX t bm = true → Tail bm B newId i t
  | [], h => by cases h
  | a :: r, h => by
    unfold refsX at h
    rcases Bool.or_eq_true_iff.mp h with e | e
    · rw [beq_iff_eq.mp e]
      exact ⟨fb, fun _ => rfl, ps, ob⟩
    · cases a <;> try cases e
      have T := refsX_tail fb ps ob r e
      refine ⟨fb, fun X => ?_, fun self => ?_, ?_⟩
      · rw [List.contains_cons, T.same]
        rfl
      · rw [refuseLoop_ref]
        exact T.pass self
      · rw [List.contains_cons, T.obj, Bool.or_true]

section
variable {prog : Program} {w : World} {A : Around} {E : Value → Shared → Prop} {R : Result → Shared → Prop} {hp : Heap} {g : Array GenState} {d : Drawn} {t : Nat} {os : OsState}
variable {K : PySem.W.Frag} {name : Str} {tk : Tok} {v : Value} {x C : Addr} {fv : Array Value} {cd : ClassData}
/-- up to the store itself -/
theorem gx_front {ox : Obj} {od : Option Obj} (X : K.In hp) (I : PySem.W.InstAt hp x ox C od) (hcd : PySem.W.clsIn K C = some cd) (pass : ∀ self, refuseLoop self "__setattr__" cd.mro = pure ()) (ob : cd.mro.contains (.type "object") = true) (ha : PySem.W.findIn K (.ref C) name = some none)
    (hq : wpAny (model prog w) A.in1 (storeInOwnDict (.ref x) (.ref C) (.str name tk) name v false) (fun fin s' => match fin with | .done f => R (.ok f) s' | .again c' => c'.quiet = true ∧ codeAny (model prog w) A c' R s') (fun e s' => R (.error e) s') ⟨hp, g, d, t, os⟩) :
    codeAny (model prog w) A (.call (.builtin "object.__setattr__") ⟨[.ref x, .str name tk, v], []⟩) R ⟨hp, g, d, t, os⟩ := by
  have SF := F.store_object
  have ne : cd.mro.isEmpty = false := by
    cases e : cd.mro with
    | nil => rw [e] at ob; cases ob
    | cons _ _ => rfl
  have sub : PySem.W.Looks (model prog w) hp (isInstance (.ref x) (.type "object")) true := I.type.andThen (PySem.W.looks_mroIn X (by unfold PySem.W.mroIn; rw [hcd, Option.bind_some, if_neg (by rw [ne]; decide), ob]))
  have hmr : PySem.W.Looks (model prog w) hp (mroOf (.ref C)) cd.mro := (PySem.W.looks_clsIn X hcd).andThen .now
  have L3 : PySem.W.Looks (model prog w) hp (storeTaker? none) none := .now
  refine codeAny_call_builtin SF.slot.plain SF.entry (@PySem.W.check_slot (model prog w) _ _ ⟨hp, g, d, t, os⟩ "object.__setattr__" "object" "__setattr__" (.ref x) [.str name tk, v] [] _ SF.kind SF.split sub (SF.args (.ref x) (.str name tk) v) ?_)
  rw [PySem.W.osa_eq, refuse_eq]
  refine wpAny_bind (wpAny_bind (I.type.at (wpAny_bind (hmr.at ?_))))
  rw [pass]
  exact wpAny_pure (wpAny_bind (I.type.at (wpAny_bind ((PySem.W.looks_findIn X ha).at (wpAny_bind (L3.at hq))))))
/-- the first field -/
theorem gx_new (X : K.In hp) (hx : hp.get? x = some { cls := .ref C, data := .fields fv }) (hcd : PySem.W.clsIn K C = some cd) (pass : ∀ self, refuseLoop self "__setattr__" cd.mro = pure ()) (ob : cd.mro.contains (.type "object") = true) (hh : cd.hasDict = true) (ha : PySem.W.findIn K (.ref C) name = some none)
    (hq : ∀ h' tk' dx, (∀ b o, b ≠ x → hp.get? b = some o → h'.get? b = some o) → hp.objs.size ≤ dx → dx ≠ x → h'.get? x = some { cls := .ref C, dict := some dx, data := .fields fv } →
      h'.Ns1 dx (fun y => if y = name then some v else none) → R (.ok (.ret .none)) ⟨h', g, d, tk', os⟩) :
    codeAny (model prog w) A (.call (.builtin "object.__setattr__") ⟨[.ref x, .str name tk, v], []⟩) R ⟨hp, g, d, t, os⟩ := by
  refine gx_front (od := none) X ⟨hx, rfl, rfl, trivial⟩ hcd pass ob ha ?_
  have hxs : x ≠ hp.objs.size := Nat.ne_of_lt (Heap.lt_size hx)
  have hcls : PySem.W.Looks (model prog w) hp (classData C) cd := PySem.W.looks_clsIn X hcd
  obtain ⟨nm, bs, mro, ns, qn, hd, sn, sb, ab, col, del⟩ := cd
  obtain rfl : hd = true := hh
  unfold storeInOwnDict ownDictForStores
  repeat (first | with_reducible refine PySem.HandSPX.store_in_new ?_ ?_ | with_reducible refine wpAny_loadPart_at hx ?_ | with_reducible refine hcls.at ?_ | wp_step)
  · exact ⟨_, #[], _, (Heap.get?_update_ne _ _ _ _ hxs.symm).trans (Heap.get?_push_at rfl rfl), rfl, fun e he => absurd he (by simp), fun _ => rfl⟩
  · intro h' tk' hn' hs
    have hx₁ : (hp.push { cls := .type "dict", data := .dict #[] }).get? x = some { cls := .ref C, data := .fields fv } := Heap.get?_push_of_some _ hx
    refine hq h' tk' hp.objs.size (fun b o hb ho => ?_) (Nat.le_refl _) hxs.symm ?_ hn'
    · rw [hs.2 b (Nat.ne_of_lt (Heap.lt_size ho)), Heap.get?_update_ne _ _ _ _ hb]
      exact Heap.get?_push_of_some _ ho
    · rw [hs.2 x hxs]
      exact Heap.get?_update_self _ hx₁ rfl
/-- a further field -/
theorem gx_old {dx : Addr} {m0 : Str → Option Value} {nl : List Str} (X : K.In hp) (hx : hp.get? x = some { cls := .ref C, dict := some dx, data := .fields fv }) (hns : hp.Ns1 dx m0) (hw : Within m0 nl) (hz : nl.length ≤ 1000) (hcd : PySem.W.clsIn K C = some cd)
    (pass : ∀ self, refuseLoop self "__setattr__" cd.mro = pure ()) (ob : cd.mro.contains (.type "object") = true) (hh : cd.hasDict = true) (ha : PySem.W.findIn K (.ref C) name = some none)
    (hq : ∀ h' tk', (∀ b o, b ≠ dx → hp.get? b = some o → h'.get? b = some o) → h'.Ns1 dx (fun y => if y = name then some v else m0 y) → R (.ok (.ret .none)) ⟨h', g, d, tk', os⟩) :
    codeAny (model prog w) A (.call (.builtin "object.__setattr__") ⟨[.ref x, .str name tk, v], []⟩) R ⟨hp, g, d, t, os⟩ := by
  obtain ⟨oD, _, _, hoD, _, _⟩ := hns.count hw
  refine gx_front (od := some oD) X ⟨hx, rfl, rfl, hoD⟩ hcd pass ob ha ?_
  have hcls : PySem.W.Looks (model prog w) hp (classData C) cd := PySem.W.looks_clsIn X hcd
  obtain ⟨nm, bs, mro, ns, qn, hd, sn, sb, ab, col, del⟩ := cd
  obtain rfl : hd = true := hh
  unfold storeInOwnDict ownDictForStores
  repeat (first | with_reducible refine PySem.OEX.store_in_old hns hw hz ?_ | with_reducible refine wpAny_loadPart_at hx ?_ | with_reducible refine hcls.at ?_ | wp_step)
  intro h' tk' hn' hs
  exact hq h' tk' (fun b o hb ho => (hs.2 b hb).trans ho) hn'
end

/-! ### the same over the own heap -/
/-- what the written part says of such a class -/
structure GexC (K : PySem.W.Frag) (C : Addr) (B newId i : String) (bmB : List Value) : Prop where
  cls : ∃ nm q N bs bm sn sub ab col dd k0 k1 k2 k3 k5, K.lookup C = some (excClassObj nm q C N bs bm true sn sub ab col dd k0 k1 k2 k3 k5 newId) ∧ Tail bm B newId i bmB
  sa : PySem.W.findIn K (.ref C) "__setattr__" = some (some (.builtin "object.__setattr__"))
  exC : PySem.W.subIn K (.ref C) (.type "BaseException") = some true
  tyC : PySem.W.typeIn K (.ref C) = some (.type "type")
  kC : PySem.W.keepIn K (.ref C) = true
theorem GexC.cd {K : PySem.W.Frag} {C : Addr} {B newId i : String} {bmB : List Value} (T : GexC K C B newId i bmB) : ∃ cd : ClassData, PySem.W.clsIn K C = some cd ∧ cd.hasDict = true ∧ (∀ self, refuseLoop self "__setattr__" cd.mro = pure ()) ∧ cd.mro.contains (.type "object") = true := by
  obtain ⟨nm, q, N, bs, bm, sn, sub, ab, col, dd, k0, k1, k2, k3, k5, hC, tl⟩ := T.cls
  refine ⟨{ name := nm, bases := bs, mro := .ref C :: bm, ns := N, qualname := q, hasDict := true, slotNames := sn, subclasses := sub, abstract := ab, collection := col, hasDel := false }, ?_, rfl, fun self => ?_, ?_⟩
  · unfold PySem.W.clsIn
    rw [hC] <;> rfl
  · show refuseLoop self "__setattr__" (.ref C :: bm) = pure ()
    rw [refuseLoop_ref]
    exact tl.pass self
  · show (Value.ref C :: bm).contains (.type "object") = true
    rw [List.contains_cons, tl.obj, Bool.or_true]
section
variable {X : Cx} {pins : List (Addr × Obj)} {σ : L2.St} {H : Hp} {s : Shared} {a C dx : Addr} {f : Str} {y : V} {u : Value} {fs : List (Str × V)} {Q : Unit → Shared → Prop} {E : Value → Shared → Prop} {A : Around} {B newId i : String} {bmB : List Value}
theorem gst_new (T : GexC X.K C B newId i bmB) (I : Inv X pins σ H s) (e : H a = some (exo a C none)) (hno : PySem.W.findIn X.K (.ref C) f = some none) (ry : RelV y u)
    (h : ∀ dx s', H dx = none → dx ≠ a → Inv X pins σ (upd (upd H dx (exd dx [(f, y)])) a (exo a C (some dx))) s' → Q () s') : wpAny (model X.prog X.w) A (setAttr (.ref a) f u) Q E s := by
  obtain ⟨cd, hcd, hd, pass, ob⟩ := T.cd
  obtain ⟨t1, ho⟩ := exo_at I.hok e
  obtain ⟨hp, g, d, t, os⟩ := s
  refine PySem.W.set_plain (od := none) I.kIn ⟨ho, rfl, rfl, trivial⟩ T.sa (gx_new I.kIn ho hcd pass ob hd hno fun h' tk' dx k dn dne hx hn => ?_)
  have hnd : H dx = none := I.hok.fresh dn
  have nd : ∀ {b : Addr} {o : Obj}, hp.get? b = some o → b ≠ dx := fun {b o} q => Nat.ne_of_lt (Nat.lt_of_lt_of_le (Heap.lt_size q) dn)
  have na : ∀ {b : Addr}, H b = none → b ≠ a := fun {b} n z => by rw [z, e] at n; cases n
  -- what stands elsewhere stays
  have els : ∀ {b : Addr} {o : HO}, H b = some o → b ≠ a → upd (upd H dx (exd dx [(f, y)])) a (exo a C (some dx)) b = some o := fun {b o} q n => by
    rw [upd_ne n, upd_ne (ne_of_none q hnd)]
    exact q
  refine h dx _ hnd dne (I.un (t' := tk') ?_ fun b o q => ?_)
  · refine ⟨fun b o q n _ _ => k b o (na n) q, fun b o q n _ _ => ⟨o.slots, k b o (na n) q⟩, fun b o q n _ => by rw [upd_ne (na n), upd_ne (nd q)]; exact n, fun b o q _ => ?_, fun b xs q => els q (at_ne e q exo_tup), fun b o v q => els q (at_ne e q exo_frz), fun b ps q => ⟨#[], ?_⟩⟩
    · by_cases hb : b = a
      · exact ⟨_, by rw [hb]; exact hx⟩
      · exact ⟨o, k b o hb q⟩
    · rw [els q (at_ne e q exo_tbl)]
      simp
  · by_cases hb : b = a
    · subst hb
      rw [upd_same] at q
      cases q
      exact exo_ok hx
    · rw [upd_ne hb] at q
      by_cases hdx : b = dx
      · subst hdx
        rw [upd_same] at q
        cases q
        exact exd_ok hn (relO_put (fs := []) ry fun g => True.intro)
      · rw [upd_ne hdx] at q
        refine (I.hok b o q).stay (fun c v hc z => k c v (fun w => ?_) z) (fun c hc => els hc (at_ne e hc exo_own)) (fun c xs hc => els hc (at_ne e hc exo_tup))
        rcases hc with hc | hc
        · exact hb (hc.symm.trans w)
        · exact at_ne e hc exo_own w
theorem gst_old (T : GexC X.K C B newId i bmB) (I : Inv X pins σ H s) (e : H a = some (exo a C (some dx))) (ed : H dx = some (exd dx fs)) (hl : fs.length ≤ 900) (hno : PySem.W.findIn X.K (.ref C) f = some none) (ry : RelV y u)
    (h : ∀ s', Inv X pins σ (upd H dx (exd dx ((f, y) :: fs))) s' → Q () s') : wpAny (model X.prog X.w) A (setAttr (.ref a) f u) Q E s := by
  obtain ⟨cd, hcd, hd, pass, ob⟩ := T.cd
  obtain ⟨t1, ho⟩ := exo_at I.hok e
  obtain ⟨mA, hns, rel⟩ := exd_at I.hok ed
  obtain ⟨hp, g, d, t, os⟩ := s
  obtain ⟨oD, _, _, hoD, _, _⟩ := hns.count (within_of rel)
  refine PySem.W.set_plain (od := some oD) I.kIn ⟨ho, rfl, rfl, hoD⟩ T.sa (gx_old I.kIn ho hns (within_of rel) (by rw [List.length_map]; omega) hcd pass ob hd hno fun h' tk' k hn => ?_)
  obtain ⟨o, es, ep, e1, e2⟩ := hn
  exact h _ (I.write (t' := tk') (x := dx) (e := dx) (o := exd dx ((f, y) :: fs)) (by rw [ed]; exact True.intro) (.inl rfl) k ⟨o, e1⟩ (exd_ok ⟨o, es, ep, e1, e2⟩ (relO_put ry rel)))
end
/-- self.f = e on such an error -/
def tGst (K : PySem.W.Frag) (B newId i : String) (bmB : List Value) (f : Str) (to te : TE) : TS := fun D σ H => te σ H fun y H1 => to σ H1 fun x H2 => ∃ a C : Addr, x = .ref a ∧ GexC K C B newId i bmB ∧ PySem.W.findIn K (.ref C) f = some none ∧
  ((H2 a = some (exo a C none) ∧ ∀ dx, H2 dx = none → dx ≠ a → D.nx σ (upd (upd H2 dx (exd dx [(f, y)])) a (exo a C (some dx)))) ∨
    ∃ (dx : Addr) (fs : List (Str × V)), H2 a = some (exo a C (some dx)) ∧ H2 dx = some (exd dx fs) ∧ fs.length ≤ 900 ∧ D.nx σ (upd H2 dx (exd dx ((f, y) :: fs))))
section
variable {X : Cx} {o e : Expr} {es : List Expr} {to te : TE} {ta : TA} {f : Str} {p p' pos : Pos} {B newId i : String} {bmB : List Value}
theorem ps_gst (ho : PE X o to) (he : PE X e te) (hs : swapsWith e (some (.Attribute o f p')) pos.line X.env = pure false := by rfl) : PS X (.Assign [.Attribute o f p'] e pos) (tGst X.K B newId i bmB f to te) := by
  refine ⟨fun pins s σ H D I h => ?_⟩
  refine plainObj_wpAny_Assign_Attribute (thn (he.run pins s σ H _ I h) fun v s1 ⟨y, H1, I1, r1, q1⟩ => thn (ho.run pins s1 σ H1 _ I1 q1) fun u s2 ⟨x, H2, I2, r2, a, C, ex, T, hno, q⟩ => ?_) hs
  subst ex
  obtain rfl : u = Value.ref a := r2
  rcases q with ⟨ea, q⟩ | ⟨dx, fs, ea, ed, hl, q⟩
  · exact gst_new T I2 ea hno r1 fun dx s' n ne J => ⟨σ, _, J, q dx n ne⟩
  · exact gst_old T I2 ea ed hl hno r1 fun s' J => ⟨σ, _, J, q⟩
theorem pmk_gex {CX : CXT} {x : Str} {C fI : Addr} {k : Nat} {fd : FuncData} {ps : List Str} {sp : Sp} {ds : List Value} {dvs : List V} (T : GexC X.K C B newId i bmB) (iC : PySem.W.findIn X.K (.ref C) "__init__" = some (some (.ref fI))) (tI : PySem.W.typeIn X.K (.ref fI) = some (.type "function"))
    (F1 : FnOk X.prog X.w X.K X.mg X.base CX k fI fd ps sp) (hr : Room (k + 1) X.A) (hb : L2.Binds X.K fd ps ds) (hd : Vals dvs ds) (hx : Passes CX X (fun _ _ _ => False)) (hg : Gl X x) (hm : X.mg x = some (.ref C)) (ha : PA X (e :: es) ta)
    (hdb : (x == ("__debug__" : Str)) = false := by decide) (he : starEach (e :: es) X.env = (false, eval e X.env) :: starEach es X.env := by rfl) (hpl : (backTo pos (starEach es X.env)).any (·.1) = false := by rfl) :
    PMk X (.Call (.Name x p) (e :: es) [] pos) (tMkO C sp dvs ta) := by
  intro pins s σ H Q I h
  obtain ⟨nm, q, N, bs, bm, sn, sub, ab, col, dd, k0, k1, k2, k3, k5, hC, tl⟩ := T.cls
  refine wpAny_Call_Name_kw (ld_glob I hg hm ?_ hdb)
  refine PySem.W.callWith_K (h₀ := X.base) I.ok.mod.kin T.kC (thn (ha.run pos pins s σ H _ I h) fun us s1 ⟨vs, H1, I1, r1, hz, q1⟩ => ⟨I1.kIn, ?_⟩) he hpl
  show wpAny _ _ (call (.ref C) us) _ _ _
  obtain ⟨hp, g, dr, tk, os⟩ := s1
  have lt : hp.objs.size ≤ hp.objs.size + 1 := Nat.le_succ _
  have hq := q1 _ (I1.hok.fresh lt)
  have keep : ∀ b o, hp.get? b = some o → ((hp.push (PySem.W.kdv_tup us)).push (PySem.HandSPX.excO C hp.objs.size)).get? b = some o := fun b o z => Heap.get?_push_of_some _ (Heap.get?_push_of_some _ z)
  have at_ : ((hp.push (PySem.W.kdv_tup us)).push (PySem.HandSPX.excO C hp.objs.size)).get? (hp.objs.size + 1) = some (PySem.HandSPX.excO C hp.objs.size) := by heap_get
  have I2 : Inv X pins σ _ ⟨_, g, dr, tk, os⟩ := I1.laid (t' := tk) (a := hp.objs.size + 1) (o := exo (hp.objs.size + 1) C none) keep lt (exo_ok at_)
  have rr : Vals (V.ref (hp.objs.size + 1) :: (vs ++ dvs)) (Value.ref (hp.objs.size + 1) :: (us ++ ds)) := .cons rfl (r1.append hd)
  refine wpAny_call (PySem.HandSPX.call_own tl.fb tl.same (I1.kIn _ _ hC) (PySem.W.looks_findIn I1.kIn iC) (fun self => PySem.W.bind_fn I1.kIn self tI) (by rw [← Paired.length r1, sizeLine_eq]; omega) (codeAny_mono (F1.run _ X.stack _ _ ⟨Value.ref (hp.objs.size + 1) :: us, []⟩ (Value.ref (hp.objs.size + 1) :: (us ++ ds)) _ _ (fun _ _ _ => False) (hr.make C us []) (I2.env0.make C us [])
    (hb _ (Value.ref (hp.objs.size + 1) :: us) I2.kIn (rr.length.symm.trans (F1.len _ _ _ _ hq))) rr hq) fun r s' z => ?_))
  match r, z with
  | .error er, z => exact hx pins σ _ _ er s' I2 z
  | .ok (.ret u), z =>
    obtain ⟨v, H2, os2, bare2, un2, hok2, rv, rfl, d, fs, ea, ed, hd1, q2⟩ := z
    obtain ⟨h2, g2, d2, t2, os'⟩ := s'
    exact ⟨rv, mk_end (raises_own T.exC T.tyC) I1 lt keep un2 hok2 os2 bare2 ea ed hd1 q2⟩
  | .ok .next, z => exact False.elim z
  | .ok .brk, z => exact False.elim z
  | .ok .cont, z => exact False.elim z
end
end VG

set_option maxRecDepth 100000
/-! V11's errors: their __init__, raising, what the head tells. -/
namespace VG
open PySem PySem.Spec PyProof.Rows L2
section
variable {X : Cx} {C fC : Addr} {fdC : FuncData} {k n : Nat} {nm : Str} {B newId i : String} {bmB : List Value}
/-- an own error's class, as its __init__ needs it -/
structure IniG (K : PySem.W.Frag) (C : Addr) (nm : Str) (B newId i : String) (bmB : List Value) : Prop where
  oex : GexC K C B newId i bmB
  cls : ClsTxt K C nm
  own : OwnX K C
theorem pss_iniG (hX : ∀ x j p, X.N[j]? = some x → PE X (.Name x p) (tVar j)) (T : IniG X.K C nm B newId i bmB) (GC : FnOk X.prog X.w X.K X.mg X.base CX0 k fC fdC ["value"] (spCopy X.K n)) (hr : Room k X.A) (hg : Gl X "copied") (mC : X.mg "copied" = some (.ref fC))
    (hk : PySem.W.keepIn X.K (.ref fC) = true) (bC : L2.Binds X.K fdC ["value"] []) :
    ∀ {l : List (Str × Nat)} {ss : List Stmt}, (∀ p ∈ l, p.1 ∈ exFields) → IniSts X.N l ss → PSs X ss (tIni X.K C nm n l) := by
  intro l ss hf hs
  induction hs with
  | code h =>
    refine ⟨fun pins s σ H D I hh => (pss_one (ps_gst (B := B) (newId := newId) (i := i) (bmB := bmB) (hX _ 0 _ h) (pe_clsName (hX _ 0 _ h)))).run pins s σ H D I ?_⟩
    obtain ⟨H0, a, FL, rs, h0, hae, st, ha, hl, q⟩ := hh
    have ex : H a = some (exo a C none) ∨ ∃ (dx : Addr) (fs : List (Str × V)), H a = some (exo a C (some dx)) ∧ H dx = some (exd dx fs) := by
      obtain ⟨fs, _, ⟨_, e⟩ | ⟨dx, _, _, e1, e2⟩⟩ := st.ex
      · exact .inl e
      · exact .inr ⟨dx, fs, e1, e2⟩
    refine ⟨_, h0, a, C, nm, rfl, T.cls, ex, _, h0, a, C, rfl, T.oex, T.own.no _ (by decide), ?_⟩
    refine st.store (R := D.nx) (.str nm) (by have := hl; simp at this; omega) fun G' s' => q G' ?_
    match rs, ha with
    | [], _ => exact s'
  | @fld x y f ix l ss p1 p2 p3 p4 p5 p6 h hy t ih =>
    have ih := ih fun p hp => hf p (List.mem_cons_of_mem _ hp)
    refine ⟨fun pins s σ H D I hh => (pss_cons (ps_gst (B := B) (newId := newId) (i := i) (bmB := bmB) (hX _ 0 _ h) (pe_call GC hr hg mC hk bC .nil pass0 (pa_cons (hX _ ix _ hy) pa_nil))) ih).run pins s σ H D I ?_⟩
    obtain ⟨H0, a, FL, rs, h0, hae, st, ha, hl, q⟩ := hh
    match rs, ha with
    | d :: rs, ⟨⟨x, hx, hd, hfit⟩, ha⟩ =>
      have noxH : Same (nox H0) H := fun b o e => by
        obtain ⟨e1, e2⟩ := of_nox e
        refine st.but b o (fun z => ?_) e1
        rw [z, hae] at e1
        exact e2 _ (Option.some.inj e1).symm
      refine ⟨x, hx, x, d, rfl, Dp.same noxH d x hd, hfit, fun y G1 sm hy' => ⟨_, h0, a, C, rfl, T.oex, T.own.no _ (hf (f, ix) List.mem_cons_self), ?_⟩⟩
      have st1 := st.on sm
      have hy2 : Dp X.K (nox (newer H0 G1)) y d := by
        refine Dp.nox d y (Dp.same (newer_mono (fun b z => ?_) fun _ _ _ e => e) d y hy')
        cases w : H0 b with
        | none => rfl
        | some o =>
          by_cases nb : b = a
          · obtain ⟨fs, _, ⟨_, e⟩ | ⟨dx, _, _, e1, e2⟩⟩ := st.ex
            · rw [nb, e] at z
              cases z
            · rw [nb, e1] at z
              cases z
          · rw [st.but b o nb w] at z
            cases z
      have hl : FL.length + (l.length + 1) ≤ 100 := hl
      refine st1.store (R := (_ : Ends).nx) hy2 (by omega) fun G' s' => ?_
      exact ⟨H0, a, (f, d) :: FL, rs, h0, hae, s', ha, by show FL.length + 1 + l.length ≤ 100; omega, q⟩
end
section
variable {P : Program} {w : World} {K : PySem.W.Frag} {mg : Str → Option Value} {base : Heap} {B i newId : String} {bmB : List Value} {C f cc cda fC : Addr} {qual : Str} {params : Arguments} {rest : List Stmt} {sc : Scope} {fd fdC : FuncData} {ps : List Str} {p0 p1 p2 p3 p4 p5 : Pos} {j k n : Nat} {z nm : Str} {self : Arg} {l : List (Str × Nat)}
theorem ok_iniG (hev : SupEv p0 p1 p2 p3 p4 j z) (T : IniTxt P K mg B i newId bmB C f cc cda qual params (superInit p0 p1 p2 p3 p4 p5 j z :: rest) sc fd) (S : IniScope ps sc) (hself : (params.posonlyargs ++ params.args).head? = some self) (hp0 : ps[0]? = some self.arg)
    (TC : IniG K C nm B newId i bmB) (GC : FnOk P w K mg base CX0 k fC fdC ["value"] (spCopy K n)) (hg : sc.names.lookup ("copied" : Str) = some .globalImplicit) (mC : mg "copied" = some (.ref fC)) (hk : PySem.W.keepIn K (.ref fC) = true) (bC : L2.Binds K fdC ["value"] [])
    (hps : ∀ x ∈ ps, (x == ("__debug__" : Str)) = false ∧ (x == ("__classdict__" : Str)) = false) (hf : ∀ p ∈ l, p.1 ∈ exFields) (hs : IniSts ps l rest) : FnOk P w K mg base CX0 (k + 1) f fd ps (spErr K C nm n ps.length l) := by
  refine ini_ok hev T S hself hp0 (fun vs H Q E h => ?_) fun A outer s H vs Q E hr h => ?_
  · obtain ⟨_, _, _, _, e, _⟩ := h
    exact e
  · obtain ⟨a, xs, rs, rfl, hl, hea, ha, hn, q⟩ := h
    refine ⟨a, xs, rfl, hea, _, pss_iniG (X := iniCx P w K mg base ps qual sc f cda cc A outer s H) (C := C) (nm := nm) (n := n) (fun x i p hx => pe_var hx (.inl (S.par x (List.mem_of_getElem? hx))) (hps x (List.mem_of_getElem? hx)).1 (hps x (List.mem_of_getElem? hx)).2) TC GC hr hg mC hk bC hf hs, ?_⟩
    exact ⟨H, a, [], rs, rfl, hea, Stg.start hea, ha, by show 0 + l.length ≤ 100; omega, q⟩
end
/-- an own error's class C, called by its name: its __init__ keeps its promise -/
structure ErrG (P : Program) (w : World) (K : PySem.W.Frag) (mg : Str → Option Value) (base : Heap) (nm : Str) (flds : List Str) (C : Addr) (k n : Nat) (B newId i : String) (bmB : List Value) : Prop where
  ini : IniG K C nm B newId i bmB
  glob : mg nm = some (.ref C)
  few : flds.length ≤ 100
  run : ∃ (f : Addr) (fd : FuncData) (ps : List Str), PySem.W.findIn K (.ref C) "__init__" = some (some (.ref f)) ∧ PySem.W.typeIn K (.ref f) = some (.type "function") ∧ L2.Binds K fd ps [] ∧ FnOk P w K mg base CX0 k f fd ps (spErr K C nm n (flds.length + 1) (slots 1 flds))
section
variable {X : Cx} {nm : Str} {flds : List Str} {C : Addr} {k n : Nat} {W : WX} {B newId i : String} {bmB : List Value} {e : Expr} {es : List Expr} {ta : TA} {p pos pos2 : Pos}
theorem ps_errG (T : ErrG X.prog X.w X.K X.mg X.base nm flds C k n B newId i bmB) (hc : X.calm = true) (tk : Takes X W) (hr : Room (k + 1) X.A) (hg : Gl X nm) (ha : PA X (e :: es) ta) (n1 : (nm == ("__debug__" : Str)) = false := by decide)
    (n2 : starEach (e :: es) X.env = (false, eval e X.env) :: starEach es X.env := by rfl) (n3 : (backTo pos (starEach es X.env)).any (·.1) = false := by rfl) :
    PS X (.Raise (some (.Call (.Name nm p) (e :: es) [] pos)) none pos2) (tErr X.K C nm flds n W ta) := by
  obtain ⟨f, fd, ps, h1, h2, h3, h4⟩ := T.run
  exact ps_raise hc tk (pmk_gex T.ini.oex h1 h2 h4 hr h3 .nil pass0 hg T.glob ha n1 n2 n3)
end
def clsG (K : PySem.W.Frag) (C : Addr) (nm : Str) (newId : String) (t : List Value) : Bool := match K.lookup C with
  | some ⟨.type tt, _, .cls cd, sl⟩ => decide (tt = "type") && (match cd.mro, sl.toList with
    | .ref C' :: bm, [_, _, some (.str z _), _, some (.builtin n), _] => decide (C' = C) && (decide (z = nm) && (decide (n = newId) && (cd.hasDict && (!cd.hasDel && refsX t bm))))
    | _, _ => false)
  | _ => false
theorem clsG_ok {K : PySem.W.Frag} {C : Addr} {nm : Str} {newId : String} {t : List Value} (h : clsG K C nm newId t = true) : ∃ (name q : Str) (N : Addr) (bs bm : List Value) (sn : List Str) (sub : List Value) (ab : Bool) (col : Option Bool) (dd : Option Addr) (k0 k1 : Option Value) (tk : Tok) (k3 k5 : Option Value),
    K.lookup C = some (excClassObj name q C N bs bm true sn sub ab col dd k0 k1 (some (.str nm tk)) k3 k5 newId) ∧ refsX t bm = true := by
  unfold clsG at h
  split at h
  · rename_i tt dd cd sl e
    obtain ⟨h1, h2⟩ := Bool.and_eq_true_iff.mp h
    have ht : tt = "type" := of_decide_eq_true h1
    split at h2
    · rename_i C' bm a0 a1 z tk a3 n a5 e1 e2
      simp only [Bool.and_eq_true, decide_eq_true_eq, Bool.not_eq_true'] at h2
      obtain ⟨g1, g2, g3, g4, g5, g6⟩ := h2
      subst ht g1 g2
      rw [g3] at e2
      obtain ⟨c1, c2, c3, c4, c5, c6, c7, c8, c9, c10, c11⟩ := cd
      have e1 : c3 = .ref C' :: bm := e1
      have g4 : c6 = true := g4
      have g5 : c11 = false := g5
      subst e1 g4 g5
      have es : sl = #[a0, a1, some (.str z tk), a3, some (.builtin newId), a5] := Array.toList_inj.mp e2
      subst es
      exact ⟨c1, c5, c4, c2, bm, c7, c8, c9, c10, dd, a0, a1, tk, a3, a5, e, g6⟩
    · cases h2
  · cases h
/-- an own error's class: all but its __init__ -/
def errG (K : PySem.W.Frag) (nm : Str) (newId : String) (t : List Value) : Bool := clsG K (He.ga K nm) nm newId t && (nameB K (He.ga K nm) && (ownXB K (He.ga K nm) && (decide (PySem.W.findIn K (.ref (He.ga K nm)) "__setattr__" = some (some (.builtin "object.__setattr__"))) && (decide (PySem.W.subIn K (.ref (He.ga K nm)) (.type "BaseException") = some true) &&
  (decide (PySem.W.typeIn K (.ref (He.ga K nm)) = some (.type "type")) && (PySem.W.keepIn K (.ref (He.ga K nm)) && (decide (PySem.W.findIn K (.ref (He.ga K nm)) "__class__" = some (some (.builtin "object.__class__"))) && (decide (PySem.W.specialIn K (.builtin "object.__class__") "__get__" = some (some (.builtin "getset_descriptor.__get__"))) &&
  (decide (PySem.W.takesIn K (.builtin "object.__class__") = some true) && (decide (PySem.W.mroIn K (He.ga K nm) (.type "object") = some true) && PySem.W.readsIn K (He.ga K nm) (.type "type")))))))))))
theorem errG_ok {K : PySem.W.Frag} {nm : Str} {B newId i : String} {t : List Value} (hb : ∀ bm, refsX t bm = true → Tail bm B newId i t) (h : errG K nm newId t = true) : IniG K (He.ga K nm) nm B newId i t := by
  unfold errG at h
  simp only [Bool.and_eq_true, decide_eq_true_eq] at h
  obtain ⟨h1, h2, h3, h4, h5, h6, h7, h8, h9, h10, h11, h12⟩ := h
  obtain ⟨name, q, N, bs, bm, sn, sub, ab, col, dd, k0, k1, tk, k3, k5, e, g⟩ := clsG_ok h1
  have o := ownX_of h3
  refine ⟨⟨⟨name, q, N, bs, bm, sn, sub, ab, col, dd, k0, k1, _, k3, k5, e, hb _ g⟩, h4, h5, h6, h7⟩, ⟨o.xf.ga, o.xf.gg, h5, ?_, h8, h9, h10, h11, h12, nameB_ok h2, h6, ⟨_, _, _, _, tk, e, rfl⟩⟩, o⟩
  unfold PySem.W.clsIn
  rw [e] <;> rfl
/-- its __init__ -/
def iniG (K : PySem.W.Frag) (nm file : Str) (B i : String) : Bool := decide (PySem.W.findIn K (.ref (He.ga K nm)) "__init__" = some (some (.ref (He.ma K (He.ga K nm) "__init__")))) && (decide (PySem.W.typeIn K (.ref (He.ma K (He.ga K nm) "__init__")) = some (.type "function")) &&
  (decide (PySem.W.ks_superIn K (He.ga K nm) (He.ga K nm) "__init__" = some (some (.builtin i))) && (decide (PySem.W.subIn K (.ref (He.ga K nm)) (.type B) = some true) && (decide (PySem.W.mroIn K (He.ga K nm) (.ref (He.ga K nm)) = some true) &&
  (decide (PySem.W.nsIn K cStatics "thirdparty.any" = some none) && (match K.lookup (He.ma K (He.ga K nm) "__init__") with
    | some ⟨_, _, .func fd, _⟩ => (match fd.code, fd.closure with
      | .ref cda, [(_, cc)] => decide (fd.defaults = .none) && (PySem.W.codeIn K (.ref cda) (nm ++ ".__init__") && ((match K.lookup cda with
          | some ⟨_, _, .fields vs, _⟩ => (match (vs[2]? : Option Value) with
            | some (.str z _) => decide (z = file)
            | _ => false)
          | _ => false) && (match K.lookup cc with
          | some ⟨_, _, .cell (some (.ref C')), _⟩ => decide (C' = He.ga K nm)
          | _ => false)))
      | _, _ => false)
    | _ => false))))))
structure IniOkG (K : PySem.W.Frag) (nm file : Str) (B i : String) : Prop where
  find : PySem.W.findIn K (.ref (He.ga K nm)) "__init__" = some (some (.ref (He.ma K (He.ga K nm) "__init__")))
  typ : PySem.W.typeIn K (.ref (He.ma K (He.ga K nm) "__init__")) = some (.type "function")
  up : PySem.W.ks_superIn K (He.ga K nm) (He.ga K nm) "__init__" = some (some (.builtin i))
  isB : PySem.W.subIn K (.ref (He.ga K nm)) (.type B) = some true
  self : PySem.W.mroIn K (He.ga K nm) (.ref (He.ga K nm)) = some true
  opq : PySem.W.nsIn K cStatics "thirdparty.any" = some none
  fn : ∃ (oc : Value) (od : Option Addr) (fd : FuncData) (osl : Array (Option Value)) (cda cc : Addr) (x : Str), K.lookup (He.ma K (He.ga K nm) "__init__") = some ⟨oc, od, .func fd, osl⟩ ∧ fd.code = .ref cda ∧ fd.closure = [(x, cc)] ∧ fd.defaults = .none ∧
    PySem.W.codeIn K (.ref cda) (nm ++ ".__init__") = true ∧ (∃ ccl cdd vs ccs tf, K.lookup cda = some ⟨ccl, cdd, .fields vs, ccs⟩ ∧ vs[2]? = some (.str file tf)) ∧ ∃ cl cld csl, K.lookup cc = some ⟨cl, cld, .cell (some (.ref (He.ga K nm))), csl⟩
theorem iniG_ok {K : PySem.W.Frag} {nm file : Str} {B i : String} (h : iniG K nm file B i = true) : IniOkG K nm file B i := by
  unfold iniG at h
  simp only [Bool.and_eq_true, decide_eq_true_eq] at h
  obtain ⟨h1, h2, h3, h4, h5, h6, h7⟩ := h
  refine ⟨h1, h2, h3, h4, h5, h6, ?_⟩
  split at h7
  · rename_i oc od fd osl e
    split at h7
    · rename_i cda x cc e1 e2
      simp only [Bool.and_eq_true, decide_eq_true_eq] at h7
      obtain ⟨g1, g2, g3, g4⟩ := h7
      refine ⟨oc, od, fd, osl, cda, cc, x, e, e1, e2, g1, g2, ?_, ?_⟩
      · split at g3
        · rename_i ccl cdd vs ccs ec
          split at g3
          · rename_i z tf ez
            rw [of_decide_eq_true g3] at ez
            exact ⟨ccl, cdd, vs, ccs, tf, ec, ez⟩
          · cases g3
        · cases g3
      · split at g4
        · rename_i cl cld C' csl ec
          rw [of_decide_eq_true g4] at ec
          exact ⟨cl, cld, csl, ec⟩
        · cases g4
    · cases h7
  · cases h7
section
variable {P : Program} {w : World} {K : PySem.W.Frag} {mg : Str → Option Value} {base : Heap}
theorem errG_of {B newId i : String} {bmB : List Value} {nm : Str} {flds ps : List Str} {st : Stmt} {rest : List Stmt} {p0 p1 p2 p3 p4 p5 : Pos} {j k n : Nat} {z : Str} {self : Arg} {fC : Addr} {fdC : FuncData} (ini : fnI K (IniD.at_ ⟨nm, st⟩) = IniD.val ⟨nm, st⟩) (kf : PySem.W.KxsFacts B i) (I : IniOkG K nm P.main.file B i) (E : IniG K (He.ga K nm) nm B newId i bmB) (glob : mg nm = some (.ref (He.ga K nm)))
    (hev : SupEv p0 p1 p2 p3 p4 j z) (hb : defBody st = superInit p0 p1 p2 p3 p4 p5 j z :: rest) (S : IniScope ps (defScope st)) (hself : ((defArgs st).posonlyargs ++ (defArgs st).args).head? = some self) (hp0 : ps[0]? = some self.arg)
    (GC : FnOk P w K mg base CX0 k fC fdC ["value"] (spCopy K n)) (hg : (defScope st).names.lookup ("copied" : Str) = some .globalImplicit) (mC : mg "copied" = some (.ref fC)) (hk : PySem.W.keepIn K (.ref fC) = true) (bC : L2.Binds K fdC ["value"] [])
    (hps : ∀ x ∈ ps, (x == ("__debug__" : Str)) = false ∧ (x == ("__classdict__" : Str)) = false) (hf : ∀ f ∈ flds, f ∈ exFields) (few : flds.length ≤ 100) (hl : ps.length = flds.length + 1) (hs : IniSts ps (slots 1 flds) rest) (sup : mg "super" = none) (top : (P.main.scope.names.lookup ("super" : Str)).isSome = false)
    (binds : ∀ (q : Str) (kV doc pm cdv ct : Value) (an : Option Addr) (cc : Addr) (us : List Value), us.length = ps.length → bindArgs (PySem.W.ksFn "__init__" q (defArgs st) (defBody st) (defScope st) .none kV doc pm an cdv ct cc) ⟨us, []⟩ = pure (ps.zip us)) :
    ErrG P w K mg base nm flds (He.ga K nm) (k + 1) n B newId i bmB := by
  obtain ⟨oc, od, fd, osl, cda, cc, x, e, e1, e2, e3, g2, g3, g4⟩ := I.fn
  have e0 : K.lookup (He.fAd K (IniD.at_ ⟨nm, st⟩)) = some ⟨oc, od, .func fd, osl⟩ := e
  unfold fnI at ini
  rw [e0] at ini
  obtain ⟨f1, f2, f3, f4, f5, f6, f7, f8, f9, f10, f11, f12, f13, f14, f15⟩ := fd
  have ini : (some (f1, f2, f3, f4, f5, f6, f7.map (·.1), f15) : FnI) = (some (("__init__" : Str), IniD.qual ⟨nm, st⟩, defArgs st, FuncBody.stmts (defBody st), defScope st, mainGlobals, [("__class__" : Str)], builtinsNs) : FnI) := ini
  simp only [Option.some.injEq, Prod.mk.injEq] at ini
  obtain ⟨rfl, rfl, rfl, rfl, rfl, rfl, ec, rfl⟩ := ini
  have e1 : f13 = .ref cda := e1
  have e2 : f7 = [(x, cc)] := e2
  have e3 : f8 = .none := e3
  subst e1 e2 e3
  have ex : x = "__class__" := by
    have z := List.cons.inj ec
    exact z.1
  subst ex
  obtain ⟨name, q, N, bs, bm, sn, sub, ab, col, dd, k0, k1, k2, k3, k5, lC, hbm⟩ := E.oex.cls
  have T : IniTxt P K mg B i newId bmB (He.ga K nm) (He.ma K (He.ga K nm) "__init__") cc cda (IniD.qual ⟨nm, st⟩) (defArgs st) (superInit p0 p1 p2 p3 p4 p5 j z :: rest) (defScope st)
      (PySem.W.ksFn "__init__" (IniD.qual ⟨nm, st⟩) (defArgs st) (defBody st) (defScope st) .none f9 f10 f11 f12 (.ref cda) f14 cc) := by
    refine ⟨kf, hbm.fb, ⟨oc, od, .none, f9, f10, f11, f12, f14, osl, by rw [hb], e⟩, g2, g3, g4, ⟨name, q, N, bs, bm, true, sn, sub, ab, col, dd, k0, k1, k2, k3, k5, lC⟩, I.up, I.isB, I.self, I.opq, sup, top⟩
  have ok := ok_iniG (n := n) (nm := nm) (l := slots 1 flds) hev T S hself hp0 E GC hg mC hk bC hps (fun p hp => ?_) hs
  · rw [hl] at ok
    exact ⟨E, glob, few, _, _, ps, I.find, I.typ, .all (fun us hus => binds _ _ _ _ _ _ _ _ us hus), ok⟩
  · have key : ∀ (l : List Str) (u : Nat), (∀ f ∈ l, f ∈ exFields) → ∀ p ∈ slots u l, p.1 ∈ exFields := by
      intro l
      induction l with
      | nil => intro u _ p hp; cases hp
      | cons f l ih =>
        intro u h p hp
        rcases List.mem_cons.mp hp with e | hp
        · rw [e]
          exact h f List.mem_cons_self
        · exact ih (u + 1) (fun g hg => h g (List.mem_cons_of_mem _ hg)) p hp
    exact key flds 1 hf p hp
end

/-! ### the base LookupError -/
abbrev leTail : List Value := [.type "LookupError", .type "Exception", .type "BaseException", .type "object"]
theorem tailLE : ∀ bm, refsX leTail bm = true → Tail bm "LookupError" "LookupError.__new__" "LookupError.__init__" leTail := refsX_tail F.excBase_LookupError F.store_LookupError.passes (by decide +kernel)
abbrev ErrL (P : Program) (w : World) (K : PySem.W.Frag) (mg : Str → Option Value) (base : Heap) (nm : Str) (flds : List Str) (C : Addr) (k n : Nat) : Prop := ErrG P w K mg base nm flds C k n "LookupError" "LookupError.__new__" "LookupError.__init__" leTail
abbrev errLB (K : PySem.W.Frag) (nm : Str) : Bool := errG K nm "LookupError.__new__" leTail
abbrev iniLB (K : PySem.W.Frag) (nm file : Str) : Bool := iniG K nm file "LookupError" "LookupError.__init__"
end VG

set_option maxRecDepth 100000
set_option maxHeartbeats 2000000
/-! Own errors as values: made by their classes (positional values, keywords, or none), their fields read, isinstance. -/
namespace VG
open PySem PySem.Spec PySem.Calls PyProof.Rows L2 PySem.HandSPX
section
variable {M : Model} {A : Around} {E : Value → Shared → Prop} {h : Heap} {g : Array GenState} {d : Drawn} {t : Nat} {os : OsState}
variable {nm q : Str} {C N : Addr} {bs bm bmB : List Value} {hdct : Bool} {sn : List Str} {sub : List Value} {ab : Bool} {col : Option Bool} {dd : Option Addr} {k0 k1 k2 k3 k5 : Option Value} {B newId initId : String}
theorem check_new_ownK (F : ExcBaseFacts B newId initId bmB) (hT : ∀ X : String, bm.contains (.type X) = bmB.contains (.type X)) {rest : List Value} {kw : List (Str × Value)} {Q : Unit → Shared → Prop}
    (hC : h.get? C = some (excClassObj nm q C N bs bm hdct sn sub ab col dd k0 k1 k2 k3 k5 newId)) (hq : Q () ⟨h, g, d, t, os⟩) : wpAny M A (checkBuiltinCall newId ⟨.ref C :: rest, kw⟩) Q E ⟨h, g, d, t, os⟩ := by
  have hcont : (Value.ref C :: bm).contains (.type B) = true := by rw [List.contains_cons, hT, F.hasB, Bool.or_true]
  have hstar := F.noStar
  simp only [checkBuiltinCall, F.newKind, F.newSplit, F.newRow]
  repeat (first | refine wpAny_loadPart_at hC ?_ | (refine wpAny_isSubtype_exc hC ?_; rw [hcont]) | refine wpAny_staticBase_exc hC ?_ | refine wpAny_madeBy_exc hC ?_ | simp only [bne_self_eq_false, Bool.false_eq_true, if_false] | wp_step)
  exact hq
theorem check_type_callK {rest : List Value} {kw : List (Str × Value)} {Q : Unit → Shared → Prop} (hC : h.get? C = some (excClassObj nm q C N bs bm hdct sn sub ab col dd k0 k1 k2 k3 k5 newId))
    (hq : Q () ⟨h, g, d, t, os⟩) : wpAny M A (checkBuiltinCall "type.__call__" ⟨.ref C :: rest, kw⟩) Q E ⟨h, g, d, t, os⟩ := by
  have f3 := tc_sub
  have hT : (⟨h, g, d, t, os⟩ : Shared).TypeIs (.ref C) "type" := ⟨_, hC, rfl⟩
  simp only [checkBuiltinCall, tc_kind, tc_split]
  repeat (any_goals (first | assumption | with_reducible refine wpAny_loadPart_at hC ?_ | with_reducible refine wpAny_onRaise ?_ | with_reducible refine wpAny_map ?_ | wp_step))
end
section
variable {prog : Program} {w : World} {A : Around} {E : Value → Shared → Prop} {R : Result → Shared → Prop} {h : Heap} {g : Array GenState} {d : Drawn} {t : Nat} {os : OsState}
variable {nm q : Str} {C N : Addr} {bs bm bmB : List Value} {hdct : Bool} {sn : List Str} {sub : List Value} {ab : Bool} {col : Option Bool} {dd : Option Addr} {k0 k1 k2 k3 k5 : Option Value} {B newId initId : String}
theorem new_ownK (F : ExcBaseFacts B newId initId bmB) (hT : ∀ X : String, bm.contains (.type X) = bmB.contains (.type X)) {rest : List Value} {kw : List (Str × Value)}
    (hC : h.get? C = some (excClassObj nm q C N bs bm hdct sn sub ab col dd k0 k1 k2 k3 k5 newId))
    (hq : R (.ok (.ret (.ref (h.objs.size + 1)))) ⟨(h.push { cls := .type "tuple", data := .seq rest.toArray }).push (excO C h.objs.size), g, d, t, os⟩) (hrest : rest.length ≤ sizeLine) :
    codeAny (model prog w) A (.builtin newId ⟨.ref C :: rest, kw⟩) R ⟨h, g, d, t, os⟩ := by
  have hends := F.ends
  have hcB : (Value.ref C :: bm).contains (.type B) = true := by rw [List.contains_cons, hT, F.hasB, Bool.or_true]
  have hcA : (Value.ref C :: bm).contains (.type "AttributeError") = false := by rw [List.contains_cons, hT, F.noAttr]; rfl
  have hcN : (Value.ref C :: bm).contains (.type "NameError") = false := by rw [List.contains_cons, hT, F.noName]; rfl
  refine codeAny_builtinAt F.entry ?_
  unfold Builtin.«BaseException.__new__»
  refine PySem.wpAt_bind ?_
  show PySem.wpAt _ _ _ (stack >>= _) _ _ _
  refine PySem.wpAt_bind (PySem.wpAt_stack fun p below => wpAt_of_wpAny ?_)
  wp_walk
  refine wpAt_of_wpAny ?_
  rw [F.owner]
  repeat (first | with_reducible refine wpAny_madeHere_exc F.canon hC ?_ | with_reducible refine wpAny_loadPart_at hC ?_ | (with_reducible refine wpAny_isSubtype_exc hC ?_; first | rw [hcB] | rw [hcA] | rw [hcN]) | wp_step)
  show R _ _
  rw [Heap.size_push]
  exact hq
theorem type_call_ownK (F : ExcBaseFacts B newId initId bmB) (hT : ∀ X : String, bm.contains (.type X) = bmB.contains (.type X)) {rest : List Value} {kw : List (Str × Value)} {fI : Addr} {Q : Fin → Shared → Prop}
    (hC : h.get? C = some (excClassObj nm q C N bs bm hdct sn sub ab col dd k0 k1 k2 k3 k5 newId))
    (hi : W.Looks (model prog w) h (typeLookup (.ref C) "__init__") (some (.ref fI))) (hb : ∀ self, W.Looks (model prog w) h (bindSpecial (.ref fI) self) (.ref fI, [self])) (hrest : rest.length ≤ sizeLine)
    (hq : codeAny (model prog w) A (.call (.ref fI) ⟨.ref (h.objs.size + 1) :: rest, kw⟩)
      (fun r s' => match r with | .ok (.ret v) => v = .none ∧ Q (.done (.ret (.ref (h.objs.size + 1)))) s' | .ok _ => False | .error e => E e s')
      ⟨(h.push (W.kdv_tup rest)).push (excO C h.objs.size), g, d, t, os⟩) :
    wpAny (model prog w) A (Builtin.«type.__call__» ⟨.ref C :: rest, kw⟩) Q E ⟨h, g, d, t, os⟩ := by
  repeat (first | with_reducible refine wpAny_loadPart_at hC ?_ | with_reducible refine wpAny_madeBy_exc hC ?_ | wp_step)
  refine codeAny_call_builtin_code (Code.quiet_builtin _ F.quiet) (check_new_ownK F hT hC ?_)
  refine new_ownK F hT hC ?_ hrest
  show wpAny _ _ _ _ _ _
  have k : ∀ b o, h.get? b = some o → ((h.push (W.kdv_tup rest)).push (excO C h.objs.size)).get? b = some o := fun b o e => Heap.get?_push_of_some _ (Heap.get?_push_of_some _ e)
  have hC₁ := k _ _ hC
  have hget : ((h.push (W.kdv_tup rest)).push (excO C h.objs.size)).get? (h.objs.size + 1) = some (excO C h.objs.size) := by heap_get
  have hcC : (Value.ref C :: bm).contains (.ref C) = true := by simp
  have i1 := hi.keeps k
  have b1 := (hb (.ref (h.objs.size + 1))).keeps k
  unfold isInstance
  repeat (first | with_reducible refine wpAny_loadPart_at hget ?_ | (with_reducible refine wpAny_isSubtype_exc hC₁ ?_; rw [hcC]) | wp_step)
  show wpAny _ _ (typeLookup (.ref C) _) _ _ _
  refine i1.at ?_
  refine wpAny_holding (wpAny_bind (b1.at ?_))
  refine wpAny_bind (wpAny_call (codeAny_mono hq fun r s' z => ?_))
  rcases r with e | (v | _ | _ | _) <;> first | exact z | exact z.elim | skip
  obtain ⟨rfl, z⟩ := z
  first
    | exact wpAny_pure (wpAny_pure z)
    | (wp_walk; exact z)
theorem call_ownK (F : ExcBaseFacts B newId initId bmB) (hT : ∀ X : String, bm.contains (.type X) = bmB.contains (.type X)) {rest : List Value} {kw : List (Str × Value)} {fI : Addr}
    (hC : h.get? C = some (excClassObj nm q C N bs bm hdct sn sub ab col dd k0 k1 k2 k3 k5 newId))
    (hi : W.Looks (model prog w) h (typeLookup (.ref C) "__init__") (some (.ref fI))) (hb : ∀ self, W.Looks (model prog w) h (bindSpecial (.ref fI) self) (.ref fI, [self])) (hrest : rest.length ≤ sizeLine)
    (hq : codeAny (model prog w) (A.under (.builtin "type.__call__" ⟨.ref C :: rest, kw⟩)) (.call (.ref fI) ⟨.ref (h.objs.size + 1) :: rest, kw⟩) (W.InitBack (h.objs.size + 1) R)
      ⟨(h.push (W.kdv_tup rest)).push (excO C h.objs.size), g, d, t, os⟩) :
    codeAny (model prog w) A (.call (.ref C) ⟨rest, kw⟩) R ⟨h, g, d, t, os⟩ := by
  have f1 := tc_lookup
  have f2 := tc_bind (.ref C)
  have hTy : (⟨h, g, d, t, os⟩ : Shared).TypeIs (.ref C) "type" := ⟨_, hC, rfl⟩
  refine codeAny_of_tree ?_
  show wpAny _ _ (callAny (.ref C) _) _ _ _
  repeat (any_goals (first | assumption | with_reducible refine wpAny_loadPart_at hC ?_ | wp_step))
  refine ⟨rfl, ?_⟩
  refine codeAny_call_builtin_at (Code.quiet_builtin _ (by decide +kernel)) entry_typeCall (check_type_callK hC (type_call_ownK F hT hC hi hb hrest ?_))
  refine codeAny_mono hq fun r s' z => ?_
  rcases r with e | (v | _ | _ | _) <;> exact z
end

/-! ### made -/
/-- C(..): a new error, then __init__ -/
def tGex (C : Addr) (n m : Nat) (sp : Sp) (gV : List V → List V → List V) (t tk : TA) : TE := fun σ H Q => t σ H fun vs H1 => tk σ H1 fun zs H2 => vs.length = n ∧ zs.length = m ∧ vs.length ≤ 1000 ∧ ∀ a, H2 a = none →
  sp (gV (.ref a :: vs) zs) (upd H2 a (exo a C none)) (fun v H3 => v = .non ∧ Q (.ref a) H3) (fun _ _ _ => False)
section
variable {X : Cx} {CX : CXT} {k n : Nat} {fI C : Addr} {fd : FuncData} {ps ks : List Str} {sp : Sp} {x : Str} {p pos : Pos} {e : Expr} {es : List Expr} {kws : List Keyword} {t tk : TA} {g : List Value → List Value → List Value} {gV : List V → List V → List V} {B newId i : String} {bmB : List Value}
theorem run_gex {pins : List (Addr × Obj)} {σ : L2.St} {H : Hp} {s : Shared} {Q : VK} {us ws : List Value} {vs zs : List V} (T : GexC X.K C B newId i bmB) (iC : PySem.W.findIn X.K (.ref C) "__init__" = some (some (.ref fI))) (tI : PySem.W.typeIn X.K (.ref fI) = some (.type "function"))
    (F : FnOk X.prog X.w X.K X.mg X.base CX k fI fd ps sp) (hr : Room (k + 1) X.A) (hb : KBn X.K fd ps (n + 1) ks g gV) (hx : Passes CX X (fun _ _ _ => False)) (I : Inv X pins σ H s) (r : Vals vs us) (rz : Vals zs ws) (l1 : vs.length = n) (l2 : zs.length = ks.length) (l3 : vs.length ≤ 1000)
    (h : ∀ a, H a = none → sp (gV (.ref a :: vs) zs) (upd H a (exo a C none)) (fun v H2 => v = .non ∧ Q (.ref a) H2) (fun _ _ _ => False)) :
    wpAny (model X.prog X.w) X.A (call (.ref C) us (ks.zip ws)) (EP X pins σ Q) X.xe s := by
  obtain ⟨nm, q, N, bs, bm, sn, sub, ab, col, dd, k0, k1, k2, k3, k5, hC, tl⟩ := T.cls
  obtain ⟨hp, g1, dr, tk, os⟩ := s
  have lt : hp.objs.size ≤ hp.objs.size + 1 := Nat.le_succ _
  have hq := h _ (I.hok.fresh lt)
  have keep : ∀ b o, hp.get? b = some o → ((hp.push (PySem.W.kdv_tup us)).push (PySem.HandSPX.excO C hp.objs.size)).get? b = some o := fun b o z => Heap.get?_push_of_some _ (Heap.get?_push_of_some _ z)
  have at_ : ((hp.push (PySem.W.kdv_tup us)).push (PySem.HandSPX.excO C hp.objs.size)).get? (hp.objs.size + 1) = some (PySem.HandSPX.excO C hp.objs.size) := by heap_get
  have I2 : Inv X pins σ _ ⟨_, g1, dr, tk, os⟩ := I.laid (t' := tk) (a := hp.objs.size + 1) (o := exo (hp.objs.size + 1) C none) keep lt (exo_ok at_)
  have r1 : Vals (V.ref (hp.objs.size + 1) :: vs) (Value.ref (hp.objs.size + 1) :: us) := .cons rfl r
  have r2 := hb.rel r1 rz
  have n1 : (Value.ref (hp.objs.size + 1) :: us).length = n + 1 := by
    rw [List.length_cons, ← r.length, l1]
  refine wpAny_call (call_ownK tl.fb tl.same (I.kIn _ _ hC) (PySem.W.looks_findIn I.kIn iC) (fun self => PySem.W.bind_fn I.kIn self tI) (by rw [← Paired.length r, sizeLine_eq]; omega) (codeAny_mono (F.run _ X.stack _ _ ⟨Value.ref (hp.objs.size + 1) :: us, ks.zip ws⟩ (g (Value.ref (hp.objs.size + 1) :: us) ws) _ _ (fun _ _ _ => False) (hr.make C us (ks.zip ws)) (I2.env0.make C us (ks.zip ws))
    (hb.to _ (Value.ref (hp.objs.size + 1) :: us) ws I2.kIn n1 (rz.length.symm.trans l2)) r2 hq) fun rr s' z => ?_))
  cases rr with
  | error er => exact hx pins σ _ _ er s' I2 z
  | ok fl =>
    cases fl with
    | ret u =>
      obtain ⟨v, H', I3, rv, ev, q3⟩ := I2.after z
      subst ev
      exact ⟨rv, ⟨V.ref (hp.objs.size + 1), H', I3, rfl, q3⟩⟩
    | next => exact False.elim z
    | brk => exact False.elim z
    | cont => exact False.elim z
theorem pe_gexK0 (T : GexC X.K C B newId i bmB) (iC : PySem.W.findIn X.K (.ref C) "__init__" = some (some (.ref fI))) (tI : PySem.W.typeIn X.K (.ref fI) = some (.type "function"))
    (F : FnOk X.prog X.w X.K X.mg X.base CX k fI fd ps sp) (hr : Room (k + 1) X.A) (hg : Gl X x) (hm : X.mg x = some (.ref C)) (hb : KBn X.K fd ps 1 ks g gV) (hx : Passes CX X (fun _ _ _ => False)) (hkw : PK X kws tk)
    (hall : (backToKw pos (keywordEach kws X.env)).all (·.1.isSome) = true := by rfl) (hks : (backToKw pos (keywordEach kws X.env)).filterMap (·.1) = ks := by rfl) (hdb : (x == ("__debug__" : Str)) = false := by decide)
    (hpl : ((backTo pos (starEach [] X.env)).any (·.1) || (backToKw pos (keywordEach kws X.env)).any (·.1.isNone)) = false := by rfl) :
    PE X (.Call (.Name x p) [] kws pos) (tGex C 0 ks.length sp gV tNil tk) := by
  refine ⟨fun pins s σ H Q I h => ?_⟩
  refine wpAny_Call_Name_kw (ld_glob I hg hm ?_ hdb)
  refine PySem.W.callWith_KW0 (h₀ := X.base) I.ok.mod.kin T.kC hall ?_ hpl
  refine thn (hkw.run pos pins s σ H _ I h) fun ws s2 ⟨zs, H2, I2, rz, l1, l2, l3, q2⟩ => ⟨I2.kIn, ?_⟩
  rw [hks]
  exact run_gex (us := []) (vs := []) T iC tI F hr hb hx I2 .nil rz rfl l2 l3 q2
theorem pe_gexK (T : GexC X.K C B newId i bmB) (iC : PySem.W.findIn X.K (.ref C) "__init__" = some (some (.ref fI))) (tI : PySem.W.typeIn X.K (.ref fI) = some (.type "function"))
    (F : FnOk X.prog X.w X.K X.mg X.base CX k fI fd ps sp) (hr : Room (k + 1) X.A) (hg : Gl X x) (hm : X.mg x = some (.ref C)) (hb : KBn X.K fd ps (n + 1) ks g gV) (hx : Passes CX X (fun _ _ _ => False)) (ha : PA X (e :: es) t) (hkw : PK X kws tk)
    (hall : (backToKw pos (keywordEach kws X.env)).all (·.1.isSome) = true := by rfl) (hks : (backToKw pos (keywordEach kws X.env)).filterMap (·.1) = ks := by rfl) (hdb : (x == ("__debug__" : Str)) = false := by decide)
    (he : starEach (e :: es) X.env = (false, eval e X.env) :: starEach es X.env := by rfl) (hpl : ((backTo pos (starEach (e :: es) X.env)).any (·.1) || (backToKw pos (keywordEach kws X.env)).any (·.1.isNone)) = false := by rfl) :
    PE X (.Call (.Name x p) (e :: es) kws pos) (tGex C n ks.length sp gV t tk) := by
  refine ⟨fun pins s σ H Q I h => ?_⟩
  refine wpAny_Call_Name_kw (ld_glob I hg hm ?_ hdb)
  refine PySem.W.callWith_KW (h₀ := X.base) I.ok.mod.kin T.kC hall (thn (ha.run pos pins s σ H _ I h) fun us s1 ⟨vs, H1, I1, r, q⟩ => ?_) hpl he
  refine thn (hkw.run pos pins s1 σ H1 _ I1 q) fun ws s2 ⟨zs, H2, I2, rz, l1, l2, l3, q2⟩ => ⟨I2.kIn, ?_⟩
  rw [hks]
  exact run_gex T iC tI F hr hb hx I2 r rz l1 l2 l3 q2
theorem pe_gex (T : GexC X.K C B newId i bmB) (iC : PySem.W.findIn X.K (.ref C) "__init__" = some (some (.ref fI))) (tI : PySem.W.typeIn X.K (.ref fI) = some (.type "function"))
    (F : FnOk X.prog X.w X.K X.mg X.base CX k fI fd ps sp) (hr : Room (k + 1) X.A) (hg : Gl X x) (hm : X.mg x = some (.ref C)) (hb : KBn X.K fd ps (n + 1) [] g gV) (hx : Passes CX X (fun _ _ _ => False)) (ha : PA X (e :: es) t)
    (hdb : (x == ("__debug__" : Str)) = false := by decide) (he : starEach (e :: es) X.env = (false, eval e X.env) :: starEach es X.env := by rfl) (hpl : (backTo pos (starEach es X.env)).any (·.1) = false := by rfl) :
    PE X (.Call (.Name x p) (e :: es) [] pos) (tGex C n 0 sp gV t tNil) := by
  refine ⟨fun pins s σ H Q I h => ?_⟩
  refine wpAny_Call_Name_kw (ld_glob I hg hm ?_ hdb)
  refine PySem.W.callWith_K (h₀ := X.base) I.ok.mod.kin T.kC (thn (ha.run pos pins s σ H _ I h) fun us s1 ⟨vs, H1, I1, r, q⟩ => ⟨I1.kIn, ?_⟩) he hpl
  obtain ⟨l1, l2, l3, q2⟩ := q
  exact run_gex (ks := []) (ws := []) (zs := []) T iC tI F hr hb hx I1 r .nil l1 rfl l3 q2
theorem pe_gex0 (T : GexC X.K C B newId i bmB) (iC : PySem.W.findIn X.K (.ref C) "__init__" = some (some (.ref fI))) (tI : PySem.W.typeIn X.K (.ref fI) = some (.type "function"))
    (F : FnOk X.prog X.w X.K X.mg X.base CX k fI fd ps sp) (hr : Room (k + 1) X.A) (hg : Gl X x) (hm : X.mg x = some (.ref C)) (hb : KBn X.K fd ps 1 [] g gV) (hx : Passes CX X (fun _ _ _ => False))
    (hdb : (x == ("__debug__" : Str)) = false := by decide) : PE X (.Call (.Name x p) [] [] pos) (tGex C 0 0 sp gV tNil tNil) := by
  refine ⟨fun pins s σ H Q I h => ?_⟩
  refine wpAny_Call_Name_kw (ld_glob I hg hm ?_ hdb)
  obtain ⟨l1, l2, l3, q2⟩ := h
  exact PySem.W.callWith_K0 I.kIn T.kC (run_gex (us := []) (vs := []) (ks := []) (ws := []) (zs := []) T iC tI F hr hb hx I .nil .nil rfl rfl l3 q2)
end

/-! ### its fields, its class -/
/-- an own error stands at a -/
def XoAt (H : Hp) (a C : Addr) (fs : List (Str × V)) : Prop := ∃ dd, H a = some (exo a C (some dd)) ∧ H dd = some (exd dd fs)
theorem XoAt.same {H H' : Hp} {a C : Addr} {fs : List (Str × V)} (s : Same H H') (h : XoAt H a C fs) : XoAt H' a C fs := by
  obtain ⟨dd, h1, h2⟩ := h
  exact ⟨dd, s _ _ h1, s _ _ h2⟩
theorem xo_inst {X : Cx} {pins : List (Addr × Obj)} {σ : L2.St} {H : Hp} {s : Shared} {a C : Addr} {fs : List (Str × V)} (I : Inv X pins σ H s) (h : XoAt H a C fs) :
    ∃ ox od, PySem.W.InstAt s.heap a ox C (some od) ∧ ∀ f v, fs.lookup f = some v → ∃ u, PySem.W.lookIn f od = some (some u) ∧ RelV v u := by
  obtain ⟨dd, ea, ed⟩ := h
  obtain ⟨t1, ho⟩ := exo_at I.hok ea
  obtain ⟨mA, hns, rel⟩ := exd_at I.hok ed
  obtain ⟨od, hod, hl⟩ := lookIn_ns hns
  refine ⟨_, od, ⟨ho, rfl, rfl, hod⟩, fun f v e => ?_⟩
  obtain ⟨u, hu, ru⟩ := RelO.some_of (v := v) (o := mA f) (by rw [← e]; exact rel f)
  exact ⟨u, by rw [hl, hu], ru⟩
def tXo (K : PySem.W.Frag) (f : Str) (te : TE) : TE := fun σ H Q => te σ H fun x H1 => ∃ (a C : Addr) (fs : List (Str × V)) (v : V), x = .ref a ∧ OwnX K C ∧ XoAt H1 a C fs ∧ fs.lookup f = some v ∧ Q v H1
theorem pe_xo {X : Cx} {e : Expr} {te : TE} {pos : Pos} {n : Str} (hn : n ∈ exFields) (he : PE X e te) (hb : attributeBase e n X.env (eval e X.env) = eval e X.env := by rfl) : PE X (.Attribute e n pos) (tXo X.K n te) := by
  refine ⟨fun pins s σ H Q I h => attr_of hb (thn (he.run pins s σ H _ I h) fun u s1 hh => ?_)⟩
  obtain ⟨x, H1, I1, rx, a, C, fs, v, ex, T, hx, l, q⟩ := hh
  subst ex
  obtain rfl : u = Value.ref a := rx
  obtain ⟨ox, od, J, hl⟩ := xo_inst I1 hx
  obtain ⟨u, hu, ru⟩ := hl n v l
  exact HandSPX.exc_get I1.kIn J T.xf.ga T.xf.gg T.xf.exC (PySem.W.findObj_own T.xf.hdC (T.no n hn) rfl hu) (handed_of ru) ⟨v, H1, I1.tok _, ru, q⟩
/-- isinstance(x, c), x an own error -/
def rIsX (K : PySem.W.Frag) : List V → Hp → VK → Prop := fun xs H Q => ∃ (a C : Addr) (fs : List (Str × V)) (nm : Str) (c : V) (cv : Value) (b : Bool), xs = [.ref a, c] ∧ XoAt H a C fs ∧ ClsTxt K C nm ∧ ClsV c cv ∧ PySem.W.kitOne K (.ref C) cv = some b ∧ Q (.bl b) H
theorem call_isX {X : Cx} : CallR X (.builtin "isinstance") (rIsX X.K) := by
  intro pins s σ H xs us Q I r h
  obtain ⟨a, C, fs, nm, c, cv, b, rfl, hx, T, hcv, e, q⟩ := h
  cases r with
  | cons rx rr =>
    cases rr with
    | cons rt rr =>
      cases rr
      cases rx
      have ec := hcv.eq rt
      subst ec
      obtain ⟨ox, od, J, _⟩ := xo_inst I hx
      exact PySem.W.kia_one (PySem.W.kitx_exc T.isC T.ga T.gg T.exC T.ca T.cn T.ct T.cm) I.kIn J e (fun z => nomatch z) fun tk => ⟨.bl b, H, I.kept (t' := tk) fun _ _ z => z, rfl, q⟩
end VG

set_option maxRecDepth 100000
/-! The fields of an own error that stands in the heap, by its code. -/
namespace VG
open PySem PySem.Spec PyProof.Rows L2
/-- an own error with the code nm and the fields fs stands at a -/
structure Own (K : PySem.W.Frag) (H : Hp) (a : Addr) (nm : Str) (fs : List (Str × V)) : Prop where
  ex : ∃ C, OwnX K C ∧ XoAt H a C fs
  code : fs.lookup ("code" : Str) = some (V.str nm)
  sh : SeqAt.shaped (.str nm) = true
theorem Own.same {K : PySem.W.Frag} {H H' : Hp} {a : Addr} {nm : Str} {fs : List (Str × V)} (e : Same H H') (c : Own K H a nm fs) : Own K H' a nm fs := by
  obtain ⟨⟨C, h1, h2⟩, h6, h7⟩ := c
  exact ⟨⟨C, h1, h2.same e⟩, h6, h7⟩
theorem Own.get {K : PySem.W.Frag} {H : Hp} {a : Addr} {nm f : Str} {fs : List (Str × V)} {v : V} {Q : VK} (c : Own K H a nm fs) (l : fs.lookup f = some v) (q : Q v H) :
    ∃ (b C : Addr) (fs : List (Str × V)) (v : V), V.ref a = .ref b ∧ OwnX K C ∧ XoAt H b C fs ∧ fs.lookup f = some v ∧ Q v H := by
  obtain ⟨⟨C, h1, h2⟩, _, _⟩ := c
  exact ⟨a, C, fs, v, rfl, h1, h2, l, q⟩
section
variable {X : Cx} {a0 : Addr} {x f : Str} {i j1 j2 j3 : Nat} {l : List Str} {es fes : List Expr} {p1 p2 p3 p4 p5 p6 p7 p8 p9 : Pos}
/-- the fields ns of the exception in hand, in slot i -/
def tFldsO (K : PySem.W.Frag) (a0 : Addr) (i : Nat) (ns : List Str) : TA := fun σ H Q => σ[i]? = some (some (.ref a0)) ∧ ∃ (nm : Str) (fs : List (Str × V)) (ys : List V), Own K H a0 nm fs ∧ ns.map (fun f => fs.lookup f) = ys.map some ∧ Q ys H
theorem pa_flds0O : PA X [] (tFldsO X.K a0 i []) := by
  refine ⟨fun pos pins s σ H Q I h => ?_⟩
  obtain ⟨_, nm, fs, ys, _, e, q⟩ := h
  have e2 : ys = [] := by
    cases ys with
    | nil => rfl
    | cons y ys => cases e
  subst e2
  exact pa_nil.run pos pins s σ H Q I q
theorem pa_fldsO {ns : List Str} (hv : PE X (.Name x p1) (tVar i)) (hf : f ∈ exFields) (ha : PA X es (tFldsO X.K a0 i ns)) : PA X (.Attribute (.Name x p1) f p2 :: es) (tFldsO X.K a0 i (f :: ns)) := by
  refine ⟨fun pos pins s σ H Q I h => ?_⟩
  obtain ⟨hs, nm, fs, ys, c, e, q⟩ := h
  match ys, e with
  | y :: ys, e =>
    have e1 := List.cons.inj e
    obtain ⟨C, h1, h2⟩ := c.ex
    refine (pa_cons (pe_xo hf hv) ha).run pos pins s σ H Q I ?_
    refine ⟨_, hs, a0, C, fs, _, rfl, h1, h2, e1.1, ?_⟩
    exact ⟨hs, nm, fs, ys, c, e1.2, q⟩
/-- if a test of the code: return the fields ns -/
def tIfRetO (K : PySem.W.Frag) (a0 : Addr) (i : Nat) (c : Str → Bool) (ns : List Str) : TS := fun D σ H => σ[i]? = some (some (.ref a0)) ∧ ∃ (nm : Str) (fs : List (Str × V)), Own K H a0 nm fs ∧
  (c nm = true → ∃ ys, ns.map (fun f => fs.lookup f) = ys.map some ∧ ∀ T H', Same H H' → SqT K H' T ys → D.rt (.ref T) H') ∧ (c nm = false → ∀ H', Same H H' → D.nx σ H')
theorem flds_endO {K : PySem.W.Frag} {σ : L2.St} {H H1 : Hp} {ns : List Str} {nm : Str} {fs : List (Str × V)} {R : VK} (hl : ns.length ≤ 1000) (hs : σ[i]? = some (some (.ref a0))) (sm : Same H H1) (c : Own K H a0 nm fs)
    (h : ∃ ys, ns.map (fun f => fs.lookup f) = ys.map some ∧ ∀ T H', Same H H' → SqT K H' T ys → R (.ref T) H') : tTup (tFldsO K a0 i ns) σ H1 R := by
  obtain ⟨ys, e, k⟩ := h
  have hz : ys.length = ns.length := by
    have z := congrArg List.length e
    rw [List.length_map, List.length_map] at z
    exact z.symm
  exact ⟨hs, nm, fs, ys, c.same sm, e, small_line (by omega), fun T hT => k T _ (sm.trans (same_upd hT)) (SqT.of upd_same)⟩
theorem ps_inRetO {ns : List Str} (hu : X.A.units + 65 < cLine) (hl : l.length ≤ 1000) (hn : ns.length ≤ 1000) (sh : SeqAt.shaped (.tuple (l.map PyData.str)) = true) (hv : PE X (.Name x p1) (tVar i))
    (ha : PA X es (fun _ H Q => Q (l.map V.str) H)) (he : PA X fes (tFldsO X.K a0 i ns)) :
    PS X (.If (.Compare (.Attribute (.Name x p1) "code" p3) [.In] [.Tuple es j1 p4] p5) [.Return (some (.Tuple fes j2 p7)) p8] [] p9) (tIfRetO X.K a0 i (eqIn l) ns) := by
  refine ⟨fun pins s σ H D I h => (ps_if (pt_cmpR (op_inT hu) (pe_xo (by decide) hv) (pe_tup ha) rfl) (pss_one (ps_ret (pe_tup he))) pss_nil).run pins s σ H D I ?_⟩
  obtain ⟨hs, nm, fs, c, hy, hn⟩ := h
  have hz : (l.map V.str).length ≤ sizeLine := by rw [List.length_map]; exact small_line hl
  refine ⟨_, hs, c.get c.code ⟨hz, fun T hT => ?_⟩⟩
  have sm := same_upd (o := .tup (l.map V.str)) hT
  refine ⟨.str nm, l.map PyData.str, .str nm, .tup (SqT.of upd_same) (strs_all l), c.sh, sh, eqIn l nm, rfl, ?_⟩
  cases e : eqIn l nm with
  | true => exact iteT (flds_endO (by assumption) hs sm c (hy e))
  | false => exact iteF (hn e _ sm)
theorem ps_eqRetO {ns : List Str} {z : Str} (hn : ns.length ≤ 1000) (hv : PE X (.Name x p1) (tVar i)) (he : PA X fes (tFldsO X.K a0 i ns)) :
    PS X (.If (.Compare (.Attribute (.Name x p1) "code" p3) [.Eq] [.Constant (.str z) j1 p4] p5) [.Return (some (.Tuple fes j2 p7)) p8] [] p9) (tIfRetO X.K a0 i (fun nm => decide (nm = z)) ns) := by
  refine ⟨fun pins s σ H D I h => (ps_if (pt_cmpR op_eq (pe_xo (by decide) hv) pe_str rfl) (pss_one (ps_ret (pe_tup he))) pss_nil).run pins s σ H D I ?_⟩
  obtain ⟨hs, nm, fs, c, hy, hn⟩ := h
  obtain ⟨C, h1, h2⟩ := c.ex
  refine ⟨_, hs, a0, C, fs, _, rfl, h1, h2, c.code, ?_⟩
  refine ⟨rfl, decide (nm = z), congrArg V.bl ?_, ?_⟩
  · by_cases y : nm = z
    · subst y
      rw [decide_eq_true rfl, decide_eq_true rfl]
    · rw [decide_eq_false y, decide_eq_false fun q => y (V.str.inj q)]
  cases e : decide (nm = z) with
  | true => exact iteT (flds_endO (by assumption) hs (Same.refl H) c (hy e))
  | false => exact iteF (hn e _ (Same.refl H))
/-- return the fields ns if the code is z else () -/
def tEndRetO (K : PySem.W.Frag) (a0 : Addr) (i : Nat) (z : Str) (ns : List Str) : TS := fun D σ H => σ[i]? = some (some (.ref a0)) ∧ ∃ (nm : Str) (fs : List (Str × V)), Own K H a0 nm fs ∧
  ∃ ys, (if decide (nm = z) = true then ns else []).map (fun f => fs.lookup f) = ys.map some ∧ ∀ T H', Same H H' → SqT K H' T ys → D.rt (.ref T) H'
theorem ps_endRetO {ns : List Str} {z : Str} (hn : ns.length ≤ 1000) (hv : PE X (.Name x p1) (tVar i)) (he : PA X fes (tFldsO X.K a0 i ns)) :
    PS X (.Return (some (.IfExp (.Compare (.Attribute (.Name x p1) "code" p3) [.Eq] [.Constant (.str z) j1 p4] p5) (.Tuple fes j2 p7) (.Tuple [] j3 p2) p6)) p8) (tEndRetO X.K a0 i z ns) := by
  refine ⟨fun pins s σ H D I h => (ps_ret (pe_ifExp (pt_cmpR op_eq (pe_xo (by decide) hv) pe_str rfl) (pe_tup he) (pe_tup (pa_flds0O (a0 := a0) (i := i))))).run pins s σ H D I ?_⟩
  obtain ⟨hs, nm, fs, c, h⟩ := h
  obtain ⟨C, h1, h2⟩ := c.ex
  refine ⟨_, hs, a0, C, fs, _, rfl, h1, h2, c.code, ?_⟩
  refine ⟨rfl, decide (nm = z), congrArg V.bl ?_, ?_⟩
  · by_cases y : nm = z
    · subst y
      rw [decide_eq_true rfl, decide_eq_true rfl]
    · rw [decide_eq_false y, decide_eq_false fun q => y (V.str.inj q)]
  cases e : decide (nm = z) with
  | true =>
    rw [e, if_pos rfl] at h
    exact iteT (flds_endO (by assumption) hs (Same.refl H) c h)
  | false =>
    rw [e, if_neg Bool.false_ne_true] at h
    exact iteF (flds_endO (by decide) hs (Same.refl H) c h)
end
/-- the fields of such an error: of its code's names, in a tuple -/
def spFieldsO (K : PySem.W.Frag) : Sp := fun vs H Q _ => ∃ (a0 : Addr) (nm : Str) (fs : List (Str × V)) (ys : List V), vs = [.ref a0] ∧ Own K H a0 nm fs ∧ (fieldsOf nm).map (fun f => fs.lookup f) = ys.map some ∧ ∀ T H', Same H H' → SqT K H' T ys → Q (.ref T) H'
/-- closes the making of an error -/
theorem mk_xo {K : PySem.W.Frag} {C : Addr} {nm : Str} {n m : Nat} {flds : List Str} {H1 : Hp} {vs zs : List V} {ds : List PyData} {Q : Addr → Hp → Prop} (hm : flds.length + 1 = m) (hl : flds.length = (vs ++ zs).length) (h100 : flds.length ≤ 100) (hv : DpAll K H1 (vs ++ zs) ds) (hf : ∀ d ∈ ds, fit n d = true)
    (q : ∀ (a : Addr) (fs : List (Str × V)) (H' : Hp), Same H1 H' → XoAt H' a C fs → FlOk K H' fs (("code", .str nm) :: after (slots 1 flds) ds []) → Q a H') :
    ∀ a, H1 a = none → spErr K C nm n m (slots 1 flds) ((.ref a :: vs) ++ zs) (upd H1 a (exo a C none)) (fun v H2 => v = .non ∧ Q a H2) (fun _ _ _ => False) := by
  refine fun a ha => ?_
  have sm1 : Same (nox H1) (nox (upd H1 a (exo a C none))) := fun b o e => by
    obtain ⟨e1, e2⟩ := of_nox e
    exact nox_of (by rw [upd_ne (ne_of_none e1 ha)]; exact e1) e2
  refine ⟨a, vs ++ zs, ds, rfl, by show (vs ++ zs).length + 1 = m; omega, upd_same, args_of (pre := [some (.ref a)]) (DpAll.same sm1 _ _ (DpAll.nox _ _ hv)) hf hl, by rw [slots_len]; exact h100, fun G' st => ⟨rfl, ?_⟩⟩
  obtain ⟨⟨fs, hF, ⟨z, _⟩ | ⟨dx, h1, h2, h3, h4⟩⟩, but, _⟩ := st
  · cases z
  · refine q a fs G' (fun b o e => ?_) ⟨dx, h3, h4⟩ (hF.same fun b o e => newer_sub b o (of_nox e).1)
    have na := ne_of_none e ha
    exact but b o na (by rw [upd_ne na]; exact e)
/-- an own error's class C, called by its name with np positional values and keywords ks -/
structure ErrV (P : Program) (w : World) (K : PySem.W.Frag) (mg : Str → Option Value) (base : Heap) (nm : Str) (flds : List Str) (C : Addr) (k n np : Nat) (ks : List Str) : Prop where
  ex : ∃ (B newId i : String) (bmB : List Value) (f : Addr) (fd : FuncData) (ps : List Str) (g : List Value → List Value → List Value), GexC K C B newId i bmB ∧ PySem.W.findIn K (.ref C) "__init__" = some (some (.ref f)) ∧ PySem.W.typeIn K (.ref f) = some (.type "function") ∧
    KBn K fd ps (np + 1) ks g (fun vs zs => vs ++ zs) ∧ FnOk P w K mg base CX0 k f fd ps (spErr K C nm n (flds.length + 1) (slots 1 flds))
  own : OwnX K C
  cls : ClsTxt K C nm
  glob : mg nm = some (.ref C)
  few : flds.length ≤ 100
def tErrV (K : PySem.W.Frag) (C : Addr) (nm : Str) (flds : List Str) (n np m : Nat) (t tk : TA) : TE := tGex C np m (spErr K C nm n (flds.length + 1) (slots 1 flds)) (fun vs zs => vs ++ zs) t tk
section
variable {X : Cx} {nm : Str} {flds ks : List Str} {C : Addr} {k n np : Nat} {p pos : Pos} {e : Expr} {es : List Expr} {kws : List Keyword} {t tk : TA}
theorem pe_errK0 (T : ErrV X.prog X.w X.K X.mg X.base nm flds C k n 0 ks) (hr : Room (k + 1) X.A) (hg : Gl X nm) (hkw : PK X kws tk)
    (hall : (backToKw pos (keywordEach kws X.env)).all (·.1.isSome) = true := by rfl) (hks : (backToKw pos (keywordEach kws X.env)).filterMap (·.1) = ks := by rfl) (hdb : (nm == ("__debug__" : Str)) = false := by decide)
    (hpl : ((backTo pos (starEach [] X.env)).any (·.1) || (backToKw pos (keywordEach kws X.env)).any (·.1.isNone)) = false := by rfl) :
    PE X (.Call (.Name nm p) [] kws pos) (tErrV X.K C nm flds n 0 ks.length tNil tk) := by
  obtain ⟨B, newId, i, bmB, f, fd, ps, g, h1, h2, h3, h4, h5⟩ := T.ex
  exact pe_gexK0 h1 h2 h3 h5 hr hg T.glob h4 pass0 hkw hall hks hdb hpl
theorem pe_errK (T : ErrV X.prog X.w X.K X.mg X.base nm flds C k n np ks) (hr : Room (k + 1) X.A) (hg : Gl X nm) (ha : PA X (e :: es) t) (hkw : PK X kws tk)
    (hall : (backToKw pos (keywordEach kws X.env)).all (·.1.isSome) = true := by rfl) (hks : (backToKw pos (keywordEach kws X.env)).filterMap (·.1) = ks := by rfl) (hdb : (nm == ("__debug__" : Str)) = false := by decide)
    (he : starEach (e :: es) X.env = (false, eval e X.env) :: starEach es X.env := by rfl) (hpl : ((backTo pos (starEach (e :: es) X.env)).any (·.1) || (backToKw pos (keywordEach kws X.env)).any (·.1.isNone)) = false := by rfl) :
    PE X (.Call (.Name nm p) (e :: es) kws pos) (tErrV X.K C nm flds n np ks.length t tk) := by
  obtain ⟨B, newId, i, bmB, f, fd, ps, g, h1, h2, h3, h4, h5⟩ := T.ex
  exact pe_gexK h1 h2 h3 h5 hr hg T.glob h4 pass0 ha hkw hall hks hdb he hpl
theorem pe_errV (T : ErrV X.prog X.w X.K X.mg X.base nm flds C k n np []) (hr : Room (k + 1) X.A) (hg : Gl X nm) (ha : PA X (e :: es) t) (hdb : (nm == ("__debug__" : Str)) = false := by decide)
    (he : starEach (e :: es) X.env = (false, eval e X.env) :: starEach es X.env := by rfl) (hpl : (backTo pos (starEach es X.env)).any (·.1) = false := by rfl) :
    PE X (.Call (.Name nm p) (e :: es) [] pos) (tErrV X.K C nm flds n np 0 t tNil) := by
  obtain ⟨B, newId, i, bmB, f, fd, ps, g, h1, h2, h3, h4, h5⟩ := T.ex
  exact pe_gex h1 h2 h3 h5 hr hg T.glob h4 pass0 ha hdb he hpl
theorem pe_err0 (T : ErrV X.prog X.w X.K X.mg X.base nm flds C k n 0 []) (hr : Room (k + 1) X.A) (hg : Gl X nm) (hdb : (nm == ("__debug__" : Str)) = false := by decide) :
    PE X (.Call (.Name nm p) [] [] pos) (tErrV X.K C nm flds n 0 0 tNil tNil) := by
  obtain ⟨B, newId, i, bmB, f, fd, ps, g, h1, h2, h3, h4, h5⟩ := T.ex
  exact pe_gex0 h1 h2 h3 h5 hr hg T.glob h4 pass0 hdb
end
section
variable {P : Program} {w : World} {K : PySem.W.Frag} {mg : Str → Option Value} {base : Heap}
theorem errV_of {B newId i : String} {bmB : List Value} {nm : Str} {flds ps : List Str} {st : Stmt} {rest : List Stmt} {p0 p1 p2 p3 p4 p5 : Pos} {j k n : Nat} {z : Str} {self : Arg} {np : Nat} {ks : List Str} {fC : Addr} {fdC : FuncData} (ini : fnI K (IniD.at_ ⟨nm, st⟩) = IniD.val ⟨nm, st⟩) (kf : PySem.W.KxsFacts B i) (I : IniOkG K nm P.main.file B i) (E : IniG K (He.ga K nm) nm B newId i bmB) (glob : mg nm = some (.ref (He.ga K nm)))
    (hev : SupEv p0 p1 p2 p3 p4 j z) (hb : defBody st = superInit p0 p1 p2 p3 p4 p5 j z :: rest) (S : IniScope ps (defScope st)) (hself : ((defArgs st).posonlyargs ++ (defArgs st).args).head? = some self) (hp0 : ps[0]? = some self.arg)
    (GC : FnOk P w K mg base CX0 k fC fdC ["value"] (spCopy K n)) (hg : (defScope st).names.lookup ("copied" : Str) = some .globalImplicit) (mC : mg "copied" = some (.ref fC)) (hk : PySem.W.keepIn K (.ref fC) = true) (bC : L2.Binds K fdC ["value"] [])
    (hps : ∀ x ∈ ps, (x == ("__debug__" : Str)) = false ∧ (x == ("__classdict__" : Str)) = false) (hf : ∀ f ∈ flds, f ∈ exFields) (few : flds.length ≤ 100) (hl : ps.length = flds.length + 1) (hs : IniSts ps (slots 1 flds) rest) (sup : mg "super" = none) (top : (P.main.scope.names.lookup ("super" : Str)).isSome = false)
    (binds : ∀ (q : Str) (kV doc pm cdv ct : Value) (an : Option Addr) (cc : Addr) (us ws : List Value), us.length = np + 1 → ws.length = ks.length → bindArgs (PySem.W.ksFn "__init__" q (defArgs st) (defBody st) (defScope st) .none kV doc pm an cdv ct cc) ⟨us, ks.zip ws⟩ = pure (ps.zip (us ++ ws))) :
    ErrV P w K mg base nm flds (He.ga K nm) (k + 1) n np ks := by
  obtain ⟨oc, od, fd, osl, cda, cc, x, e, e1, e2, e3, g2, g3, g4⟩ := I.fn
  have e0 : K.lookup (He.fAd K (IniD.at_ ⟨nm, st⟩)) = some ⟨oc, od, .func fd, osl⟩ := e
  unfold fnI at ini
  rw [e0] at ini
  obtain ⟨f1, f2, f3, f4, f5, f6, f7, f8, f9, f10, f11, f12, f13, f14, f15⟩ := fd
  have ini : (some (f1, f2, f3, f4, f5, f6, f7.map (·.1), f15) : FnI) = (some (("__init__" : Str), IniD.qual ⟨nm, st⟩, defArgs st, FuncBody.stmts (defBody st), defScope st, mainGlobals, [("__class__" : Str)], builtinsNs) : FnI) := ini
  simp only [Option.some.injEq, Prod.mk.injEq] at ini
  obtain ⟨rfl, rfl, rfl, rfl, rfl, rfl, ec, rfl⟩ := ini
  have e1 : f13 = .ref cda := e1
  have e2 : f7 = [(x, cc)] := e2
  have e3 : f8 = .none := e3
  subst e1 e2 e3
  have ex : x = "__class__" := by
    have z := List.cons.inj ec
    exact z.1
  subst ex
  obtain ⟨name, q, N, bs, bm, sn, sub, ab, col, dd, k0, k1, k2, k3, k5, lC, hbm⟩ := E.oex.cls
  have T : IniTxt P K mg B i newId bmB (He.ga K nm) (He.ma K (He.ga K nm) "__init__") cc cda (IniD.qual ⟨nm, st⟩) (defArgs st) (superInit p0 p1 p2 p3 p4 p5 j z :: rest) (defScope st)
      (PySem.W.ksFn "__init__" (IniD.qual ⟨nm, st⟩) (defArgs st) (defBody st) (defScope st) .none f9 f10 f11 f12 (.ref cda) f14 cc) := by
    refine ⟨kf, hbm.fb, ⟨oc, od, .none, f9, f10, f11, f12, f14, osl, by rw [hb], e⟩, g2, g3, g4, ⟨name, q, N, bs, bm, true, sn, sub, ab, col, dd, k0, k1, k2, k3, k5, lC⟩, I.up, I.isB, I.self, I.opq, sup, top⟩
  have ok := ok_iniG (n := n) (nm := nm) (l := slots 1 flds) hev T S hself hp0 E GC hg mC hk bC hps (fun p hp => ?_) hs
  · rw [hl] at ok
    exact ⟨⟨_, _, _, _, _, _, ps, fun us ws => us ++ ws, E.oex, I.find, I.typ, ⟨fun s us ws _ l1 l2 => .of_eq (binds _ _ _ _ _ _ _ _ us ws l1 l2), fun r1 r2 => r1.append r2⟩, ok⟩, E.own, E.cls, glob, few⟩
  · have key : ∀ (l : List Str) (u : Nat), (∀ f ∈ l, f ∈ exFields) → ∀ p ∈ slots u l, p.1 ∈ exFields := by
      intro l
      induction l with
      | nil => intro u _ p hp; cases hp
      | cons f l ih =>
        intro u h p hp
        rcases List.mem_cons.mp hp with e | hp
        · rw [e]
          exact h f List.mem_cons_self
        · exact ih (u + 1) (fun g hg => h g (List.mem_cons_of_mem _ hg)) p hp
    exact key flds 1 hf p hp
end
/-! ### errors with no fields -/
section
variable {X : Cx} {C : Addr} {n : Nat} {nm : Str} {B newId i : String} {bmB : List Value}
theorem pss_ini0 (hX : ∀ x j p, X.N[j]? = some x → PE X (.Name x p) (tVar j)) (T : IniG X.K C nm B newId i bmB) : ∀ {ss : List Stmt}, IniSts X.N [] ss → PSs X ss (tIni X.K C nm n []) := by
  intro ss hs
  cases hs with
  | code h =>
    refine ⟨fun pins s σ H D I hh => (pss_one (ps_gst (B := B) (newId := newId) (i := i) (bmB := bmB) (hX _ 0 _ h) (pe_clsName (hX _ 0 _ h)))).run pins s σ H D I ?_⟩
    obtain ⟨H0, a, FL, rs, h0, hae, st, ha, hl, q⟩ := hh
    have ex : H a = some (exo a C none) ∨ ∃ (dx : Addr) (fs : List (Str × V)), H a = some (exo a C (some dx)) ∧ H dx = some (exd dx fs) := by
      obtain ⟨fs, _, ⟨_, e⟩ | ⟨dx, _, _, e1, e2⟩⟩ := st.ex
      · exact .inl e
      · exact .inr ⟨dx, fs, e1, e2⟩
    refine ⟨_, h0, a, C, nm, rfl, T.cls, ex, _, h0, a, C, rfl, T.oex, T.own.no _ (by decide), ?_⟩
    refine st.store (R := D.nx) (.str nm) (by have := hl; simp at this; omega) fun G' s' => q G' ?_
    match rs, ha with
    | [], _ => exact s'
end
section
variable {P : Program} {w : World} {K : PySem.W.Frag} {mg : Str → Option Value} {base : Heap} {B i newId : String} {bmB : List Value} {C f cc cda fC : Addr} {qual : Str} {params : Arguments} {rest : List Stmt} {sc : Scope} {fd fdC : FuncData} {ps : List Str} {p0 p1 p2 p3 p4 p5 : Pos} {j k n : Nat} {z nm : Str} {self : Arg} {l : List (Str × Nat)}
theorem ok_ini0 (hev : SupEv p0 p1 p2 p3 p4 j z) (T : IniTxt P K mg B i newId bmB C f cc cda qual params (superInit p0 p1 p2 p3 p4 p5 j z :: rest) sc fd) (S : IniScope ps sc) (hself : (params.posonlyargs ++ params.args).head? = some self) (hp0 : ps[0]? = some self.arg)
    (TC : IniG K C nm B newId i bmB) (hps : ∀ x ∈ ps, (x == ("__debug__" : Str)) = false ∧ (x == ("__classdict__" : Str)) = false) (hs : IniSts ps [] rest) : FnOk P w K mg base CX0 (k + 1) f fd ps (spErr K C nm n ps.length []) := by
  refine ini_ok hev T S hself hp0 (fun vs H Q E h => ?_) fun A outer s H vs Q E hr h => ?_
  · obtain ⟨_, _, _, _, e, _⟩ := h
    exact e
  · obtain ⟨a, xs, rs, rfl, hl, hea, ha, hn, q⟩ := h
    refine ⟨a, xs, rfl, hea, _, pss_ini0 (X := iniCx P w K mg base ps qual sc f cda cc A outer s H) (C := C) (nm := nm) (n := n) (fun x i p hx => pe_var hx (.inl (S.par x (List.mem_of_getElem? hx))) (hps x (List.mem_of_getElem? hx)).1 (hps x (List.mem_of_getElem? hx)).2) TC hs, ?_⟩
    exact ⟨H, a, [], rs, rfl, hea, Stg.start hea, ha, by show 0 + ([] : List (Str × Nat)).length ≤ 100; omega, q⟩
end
section
variable {P : Program} {w : World} {K : PySem.W.Frag} {mg : Str → Option Value} {base : Heap}
theorem errV_of0 {B newId i : String} {bmB : List Value} {nm : Str} {ps : List Str} {st : Stmt} {rest : List Stmt} {p0 p1 p2 p3 p4 p5 : Pos} {j k n : Nat} {z : Str} {self : Arg} {np : Nat} {ks : List Str} (ini : fnI K (IniD.at_ ⟨nm, st⟩) = IniD.val ⟨nm, st⟩) (kf : PySem.W.KxsFacts B i) (I : IniOkG K nm P.main.file B i) (E : IniG K (He.ga K nm) nm B newId i bmB) (glob : mg nm = some (.ref (He.ga K nm)))
    (hev : SupEv p0 p1 p2 p3 p4 j z) (hb : defBody st = superInit p0 p1 p2 p3 p4 p5 j z :: rest) (S : IniScope ps (defScope st)) (hself : ((defArgs st).posonlyargs ++ (defArgs st).args).head? = some self) (hp0 : ps[0]? = some self.arg)
    (hps : ∀ x ∈ ps, (x == ("__debug__" : Str)) = false ∧ (x == ("__classdict__" : Str)) = false) (hl : ps.length = 1) (hs : IniSts ps [] rest) (sup : mg "super" = none) (top : (P.main.scope.names.lookup ("super" : Str)).isSome = false)
    (binds : ∀ (q : Str) (kV doc pm cdv ct : Value) (an : Option Addr) (cc : Addr) (us ws : List Value), us.length = np + 1 → ws.length = ks.length → bindArgs (PySem.W.ksFn "__init__" q (defArgs st) (defBody st) (defScope st) .none kV doc pm an cdv ct cc) ⟨us, ks.zip ws⟩ = pure (ps.zip (us ++ ws))) :
    ErrV P w K mg base nm [] (He.ga K nm) (k + 1) n np ks := by
  obtain ⟨oc, od, fd, osl, cda, cc, x, e, e1, e2, e3, g2, g3, g4⟩ := I.fn
  have e0 : K.lookup (He.fAd K (IniD.at_ ⟨nm, st⟩)) = some ⟨oc, od, .func fd, osl⟩ := e
  unfold fnI at ini
  rw [e0] at ini
  obtain ⟨f1, f2, f3, f4, f5, f6, f7, f8, f9, f10, f11, f12, f13, f14, f15⟩ := fd
  have ini : (some (f1, f2, f3, f4, f5, f6, f7.map (·.1), f15) : FnI) = (some (("__init__" : Str), IniD.qual ⟨nm, st⟩, defArgs st, FuncBody.stmts (defBody st), defScope st, mainGlobals, [("__class__" : Str)], builtinsNs) : FnI) := ini
  simp only [Option.some.injEq, Prod.mk.injEq] at ini
  obtain ⟨rfl, rfl, rfl, rfl, rfl, rfl, ec, rfl⟩ := ini
  have e1 : f13 = .ref cda := e1
  have e2 : f7 = [(x, cc)] := e2
  have e3 : f8 = .none := e3
  subst e1 e2 e3
  have ex : x = "__class__" := by
    have z := List.cons.inj ec
    exact z.1
  subst ex
  obtain ⟨name, q, N, bs, bm, sn, sub, ab, col, dd, k0, k1, k2, k3, k5, lC, hbm⟩ := E.oex.cls
  have T : IniTxt P K mg B i newId bmB (He.ga K nm) (He.ma K (He.ga K nm) "__init__") cc cda (IniD.qual ⟨nm, st⟩) (defArgs st) (superInit p0 p1 p2 p3 p4 p5 j z :: rest) (defScope st)
      (PySem.W.ksFn "__init__" (IniD.qual ⟨nm, st⟩) (defArgs st) (defBody st) (defScope st) .none f9 f10 f11 f12 (.ref cda) f14 cc) := by
    refine ⟨kf, hbm.fb, ⟨oc, od, .none, f9, f10, f11, f12, f14, osl, by rw [hb], e⟩, g2, g3, g4, ⟨name, q, N, bs, bm, true, sn, sub, ab, col, dd, k0, k1, k2, k3, k5, lC⟩, I.up, I.isB, I.self, I.opq, sup, top⟩
  have ok := ok_ini0 (P := P) (w := w) (base := base) (n := n) (nm := nm) (k := k) hev T S hself hp0 E hps hs
  rw [hl] at ok
  exact ⟨⟨_, _, _, _, _, _, ps, fun us ws => us ++ ws, E.oex, I.find, I.typ, ⟨fun s us ws _ l1 l2 => .of_eq (binds _ _ _ _ _ _ _ _ us ws l1 l2), fun r1 r2 => r1.append r2⟩, ok⟩, E.own, E.cls, glob, by decide⟩
end
abbrev veTl : List Value := [.type "ValueError", .type "Exception", .type "BaseException", .type "object"]
theorem tailVE : ∀ bm, refsX veTl bm = true → Tail bm "ValueError" "ValueError.__new__" "ValueError.__init__" veTl := refsX_tail F.excBase_ValueError F.store_ValueError.passes (by decide +kernel)
abbrev ieTl : List Value := [.type "IndexError", .type "LookupError", .type "Exception", .type "BaseException", .type "object"]
theorem tailIE : ∀ bm, refsX ieTl bm = true → Tail bm "IndexError" "IndexError.__new__" "IndexError.__init__" ieTl := refsX_tail F.excBase_IndexError F.store_IndexError.passes (by decide +kernel)
end VG

set_option maxRecDepth 100000
namespace Lw
open PySem L2 VG
def topS (i : Nat) : Stmt := PySem.Challenge.pw_missingmiles_k27_sizes_of_scripts_refuse.main.body.getD i (.Pass ⟨0, 0, 0, 0⟩)
abbrev s__wall : Stmt := topS 1
abbrev s_copied : Stmt := topS 3
abbrev s_MilesError : Stmt := topS 5
abbrev s_Missing : Stmt := topS 6
abbrev s_InvalidRatio : Stmt := topS 7
abbrev s_InvalidNumber : Stmt := topS 8
abbrev s_InvalidName : Stmt := topS 9
abbrev s_DuplicateName : Stmt := topS 10
abbrev s_InvalidStep : Stmt := topS 11
abbrev s_UnlikeEnds : Stmt := topS 12
abbrev s_InvalidText : Stmt := topS 13
abbrev s_UnlikeScripts : Stmt := topS 14
abbrev s_TooMany : Stmt := topS 15
abbrev s_UnknownName : Stmt := topS 16
abbrev s_NothingLeft : Stmt := topS 17
abbrev s__is_whole : Stmt := topS 20
abbrev s_is_number : Stmt := topS 21
abbrev s_is_ratio : Stmt := topS 22
abbrev s_can_be_ratio : Stmt := topS 23
abbrev s_is_length : Stmt := topS 24
abbrev s_is_scale : Stmt := topS 25
abbrev s_ratio_of : Stmt := topS 26
abbrev s__figures : Stmt := topS 27
abbrev s_ratio_text : Stmt := topS 28
abbrev s__are_figures : Stmt := topS 29
abbrev s_read_ratio : Stmt := topS 30
abbrev s_ratio_or_none : Stmt := topS 31
abbrev s__are_letters : Stmt := topS 34
abbrev s_is_name : Stmt := topS 35
abbrev s_is_layer : Stmt := topS 36
abbrev s_is_item : Stmt := topS 42
abbrev s_are_items : Stmt := topS 43
abbrev s_known_names : Stmt := topS 44
abbrev s_inner_steps : Stmt := topS 45
abbrev s_times_of : Stmt := topS 46
abbrev s_names_text : Stmt := topS 49
abbrev s_is_leaf : Stmt := topS 51
abbrev s_check_names : Stmt := topS 55
abbrev s_check_layers : Stmt := topS 56
abbrev s__is_step : Stmt := topS 57
abbrev s_check_steps : Stmt := topS 58
abbrev s_count_steps : Stmt := topS 59
abbrev s_count_word : Stmt := topS 60
abbrev s_names_behind : Stmt := topS 61
abbrev s__names_behind_step : Stmt := topS 62
abbrev s__names_behind_if : Stmt := topS 63
abbrev s__names_behind_repeat : Stmt := topS 64
abbrev s__names_with : Stmt := topS 65
abbrev s_text_of : Stmt := topS 68
abbrev s__words_of : Stmt := topS 69
abbrev s__step_words : Stmt := topS 70
abbrev s__item_words : Stmt := topS 71
abbrev s__bracketed : Stmt := topS 72
abbrev s_read_steps : Stmt := topS 73
abbrev s_Reader : Stmt := topS 74
abbrev s_Script : Stmt := topS 77
abbrev sSource : Stmt := topS 79
abbrev sDraw : Stmt := topS 80
abbrev sSame : Stmt := topS 81
abbrev s__law_fields : Stmt := topS 82
abbrev s__law_ask : Stmt := topS 83
abbrev sLaw : Stmt := topS 84
/-! ### the source of draws -/
def srcL (q : Addr) (i c seed n : Int) : List V := [.ref q, .int i, .int c, .int seed, .int n]
structure Src (H : Hp) (p q : Addr) (cells : List Int) : Prop where
  ex : ∃ i c seed n : Int, H p = some (.lst (srcL q i c seed n)) ∧ 0 ≤ i ∧ 0 ≤ c
  cs : H q = some (.lst (cells.map V.int))
  few : cells.length ≤ 63
  ne : p ≠ q
/-- all but p is as it was -/
def But (p : Addr) (H H' : Hp) : Prop := ∀ b, b ≠ p → H' b = H b
theorem But.refl (p : Addr) (H : Hp) : But p H H := fun _ _ => rfl
theorem But.trans {p : Addr} {H H1 H2 : Hp} (a : But p H H1) (b : But p H1 H2) : But p H H2 := fun c n => (b c n).trans (a c n)
theorem But.upd {p : Addr} {H : Hp} {o : HO} : But p H (upd H p o) := fun _ n => upd_ne n
def spSource (K : PySem.W.Frag) : Sp := fun vs H Q _ => ∃ (a : Addr) (ns : List Int), vs = [.ref a] ∧ SqL K H a (ns.map V.int) ∧ ns.length ≤ 63 ∧
  ∀ (p q : Addr) (H' : Hp), H p = none → H q = none → Same H H' → Src H' p q ns → Q (.ref p) H'
def spDraw : Sp := fun vs H Q _ => ∃ (p q : Addr) (cells : List Int) (m : Int), vs = [.ref p, .int m] ∧ Src H p q cells ∧ 0 < m ∧ m < 2 ^ 100 ∧
  ∀ (r : Int) (H' : Hp), 0 ≤ r → r < m → Src H' p q cells → But p H H' → Q (.int r) H'
/-- what the law's helpers ask of the names of the top -/
structure Nm (mg : Str → Option Value) : Prop where
  int : mg "int" = none
  len : mg "len" = none
  list : mg "list" = none
  repr : mg "repr" = none
section
variable {P : Program} {w : World} {K : PySem.W.Frag} {mg : Str → Option Value} {base : Heap}
theorem scSource : FnScope ["_law_script", "_law_seed", "_law_cell"] ["_law_script"] (defScope sSource) := ⟨rfl, rfl, rfl, by decide +kernel, rfl, by decide +kernel, by decide +kernel⟩
theorem scDraw : FnScope ["_law_src", "_law_many", "_law_cell", "_law_digit", "_law_root", "_law_grown"] ["_law_src", "_law_many"] (defScope sDraw) := ⟨rfl, rfl, rfl, by decide +kernel, rfl, by decide +kernel, by decide +kernel⟩
theorem ok_draw {f : Addr} {fd : FuncData} (F : Fun K "_law_draw" "_law_draw" sDraw f fd) (T : Nm mg) : FnOk P w K mg base CX0 1 f fd ["_law_src", "_law_many"] spDraw := by
  refine F.ok scDraw (fun vs H Q E h => ?_) (fun cdv A outer s H vs Q E hr h => ?_)
  · obtain ⟨p, q, cells, m, rfl, _⟩ := h
    rfl
  · obtain ⟨p, q, cells, m, rfl, ⟨⟨i, c, seed, n, hp, hi, hc⟩, hq, hfew, hne⟩, hm0, hm1, k⟩ := h
    have nd := scDraw.nd
    refine ⟨_, C8.pss_cut (ps_if (PW.pt (pw_and (pt_cmpR op_lt (pe_ix ix_list (pv 0) pe_int fun _ _ => rfl) (pv 1) (nomark _))
          (pw_and1 (pt_cmpR op_lt (pe_ix ix_list (pv 0) pe_int fun _ _ => rfl) (pe_callB call_len_seq (by rfl) T.len PySem.boot_len (pa_cons (pe_ix ix_list (pv 0) pe_int fun _ _ => rfl) pa_nil)) (nomark _)))))
        (pss_cons (ps_set (i := 2) nd rfl (Or.inl rfl) (pe_ix ix_list (pe_ix ix_list (pv 0) pe_int fun _ _ => rfl) (pe_ix ix_list (pv 0) pe_int fun _ _ => rfl) fun _ _ => rfl))
        (pss_cons (ps_asg (pe_op op_add (pe_ix ix_list (pv 0) pe_int fun _ _ => rfl) pe_int) (pg_sub (pv 0) pe_int set_list))
        (pss_cons (ps_asg (pe_op op_mod (pe_callTy call_int1 (by rfl) T.int (by decide +kernel) (pa_cons (pe_op op_add (pe_op op_add (pe_op op_mul (pe_ix ix_list (pv 0) pe_int fun _ _ => rfl) pe_int)
            (pe_op op_mod (pe_callTy call_int1 (by rfl) T.int (by decide +kernel) (pa_cons (pv 2) pa_nil)) pe_int)) pe_int) pa_nil)) pe_int) (pg_sub (pv 0) pe_int set_list))
        (pss_one (ps_asg (pe_ifExp (pt_cmpR op_ge (pv 2) (pe_op op_pow pe_int pe_int) (nomark _)) (pv 2) pe_int) (pg_sub (pv 0) pe_int set_list)))))) pss_nil)
      (pss_cons (ps_if (pt_cmpR op_ge (pe_ix ix_list (pv 0) pe_int fun _ _ => rfl) (pv 1) (nomark _))
        (pss_cons (ps_set (i := 3) nd rfl (Or.inl rfl) (pe_op op_mod (pe_callTy call_int1 (by rfl) T.int (by decide +kernel) (pa_cons (pe_ix ix_list (pv 0) pe_int fun _ _ => rfl) pa_nil)) (pv 1)))
        (pss_cons (ps_asg (pe_op op_fdivW (pe_ix ix_list (pv 0) pe_int fun _ _ => rfl) (pv 1)) (pg_sub (pv 0) pe_int set_list))
        (pss_one (ps_ret (pv 3))))) pss_nil)
      (pss_cons (ps_asg (pe_op op_add (pe_ix ix_list (pv 0) pe_int fun _ _ => rfl) pe_int) (pg_sub (pv 0) pe_int set_list))
      (C8.pss_cut (ps_set (i := 4) nd rfl (Or.inl rfl) (pe_op op_mod (pe_callTy call_int1 (by rfl) T.int (by decide +kernel) (pa_cons (pe_op op_add (pe_ix ix_list (pv 0) pe_int fun _ _ => rfl)
          (pe_op op_mul (pe_ix ix_list (pv 0) pe_int fun _ _ => rfl) pe_int)) pa_nil)) pe_int))
      (pss_cons (ps_set (i := 5) nd rfl (Or.inl rfl) (pe_op op_mul (pe_op op_mod (pe_callTy call_int1 (by rfl) T.int (by decide +kernel) (pa_cons (pe_op op_mul (pv 4) (pv 4)) pa_nil)) pe_int)
          (pe_op op_add (pe_op op_mod (pe_callTy call_int1 (by rfl) T.int (by decide +kernel) (pa_cons (pv 4) pa_nil)) pe_int) pe_int)))
      (pss_cons (ps_asg (pe_op op_mod (pe_callTy call_int1 (by rfl) T.int (by decide +kernel) (pa_cons (pe_op op_add (pe_op op_add (pv 5) (pe_op op_mul pe_int (pv 4))) pe_int) pa_nil)) pe_int) (pg_sub (pv 0) pe_int set_list))
      (pss_one (ps_ret (pe_op op_mod (pe_callTy call_int1 (by rfl) T.int (by decide +kernel) (pa_cons (pe_op op_add (pe_op op_fdiv (pe_ix ix_list (pv 0) pe_int fun _ _ => rfl) pe_int)
          (pe_op op_mul (pe_op op_mod (pe_callTy call_int1 (by rfl) T.int (by decide +kernel) (pa_cons (pe_ix ix_list (pv 0) pe_int fun _ _ => rfl) pa_nil)) pe_int) pe_int)) pa_nil)) (pv 1))))))))), ?_⟩
    -- behind the first if the source is as it may be
    refine ⟨fun σ H1 => ∃ cell, σ = [some (.ref p), some (.int m), cell, none, none, none] ∧ Src H1 p q cells ∧ But p H H1, ?_, ?_⟩
    · refine ⟨_, rfl, _, _, _, _, rfl, rfl, SqL.of hp, rfl, _, rfl, _, _, rfl, rfl, _, rfl, ?_⟩
      refine ite2 (fun hlt => ?_) (fun _ => iteF ⟨_, rfl, ⟨⟨i, c, seed, n, hp, hi, hc⟩, hq, hfew, hne⟩, But.refl _ _⟩)
      refine ⟨_, rfl, _, _, _, _, rfl, rfl, SqL.of hp, rfl, _, rfl, _, _, _, _, rfl, rfl, SqL.of hp, rfl, q, _, rfl, .inl (SqL.of hq), _, _, rfl, rfl, _, rfl, ?_⟩
      refine ite2 (fun hlt2 => ?_) (fun _ => ⟨_, rfl, ⟨⟨i, c, seed, n, hp, hi, hc⟩, hq, hfew, hne⟩, But.refl _ _⟩)
      have hlt2 : i < ((cells.map V.int).length : Int) := of_decide_eq_true hlt2
      rw [List.length_map] at hlt2
      obtain ⟨j, rfl⟩ := Int.eq_ofNat_of_zero_le hi
      have hj : j < cells.length := by omega
      have hcell : (cells.map V.int)[j]? = some (V.int cells[j]) := by rw [List.getElem?_map, List.getElem?_eq_getElem hj]; rfl
      have hqp : ∀ {H' : Hp}, But p H H' → H' q = some (.lst (cells.map V.int)) := fun b => (b q hne.symm).trans hq
      refine ⟨_, rfl, _, _, _, _, rfl, rfl, SqL.of hp, rfl, _, rfl, _, _, _, _, rfl, rfl, SqL.of hp, rfl, q, _, _, _, rfl, rfl, SqL.of hq, atI_nat hcell, ?_⟩
      -- _law_src[1] = _law_src[1] + 1
      refine ⟨_, rfl, _, _, _, _, rfl, rfl, SqL.of hp, rfl, _, _, rfl, rfl, _, rfl, p, _, _, _, rfl, rfl, hp, rfl, ?_⟩
      -- _law_src[3] = ..
      refine ⟨_, rfl, _, _, _, _, rfl, rfl, SqL.of upd_same, rfl, _, _, rfl, rfl, .inr ⟨by decide, by decide⟩, _, rfl, .inl ⟨_, rfl, _, _, rfl, rfl, (by show (0 : Int) < 2147483323; decide), _, _, rfl, rfl, _, _, rfl, rfl, .inl ⟨_, rfl, _, _, rfl, rfl, (by show (0 : Int) < 2147483549; decide), _, rfl, p, _, _, _, rfl, rfl, upd_same, rfl, ?_⟩⟩⟩
      -- _law_src[2] = ..
      refine ⟨_, rfl, _, _, rfl, rfl, ⟨by decide, by decide, by decide⟩, _, _, rfl, rfl, _, rfl, ?_⟩
      refine ite2 (fun hge => ?_) (fun _ => ?_)
      · refine ⟨_, rfl, _, rfl, p, _, _, _, rfl, rfl, upd_same, rfl, ⟨_, rfl, ⟨⟨_, _, _, _, upd_same, by omega, ?_⟩, ?_, hfew, hne⟩, ?_⟩⟩
        · have z := of_decide_eq_true hge
          exact Int.le_trans (by decide) z
        · exact hqp (But.trans (But.trans But.upd But.upd) But.upd)
        · exact But.trans (But.trans But.upd But.upd) But.upd
      · exact ⟨_, rfl, p, _, _, _, rfl, rfl, upd_same, rfl, ⟨_, rfl, ⟨⟨_, _, _, _, upd_same, by omega, Int.le_refl _⟩, hqp (But.trans (But.trans But.upd But.upd) But.upd), hfew, hne⟩, But.trans (But.trans But.upd But.upd) But.upd⟩⟩
    · rintro σ H1 ⟨cell, rfl, ⟨⟨i, c, seed, n, hp, hi, hc⟩, hq, _, _⟩, hB⟩
      -- if _law_src[2] >= _law_many
      refine ⟨_, rfl, _, _, _, _, rfl, rfl, SqL.of hp, rfl, _, rfl, _, _, rfl, rfl, _, rfl, ?_⟩
      refine ite2 (fun _ => ?_) (fun _ => ?_)
      · refine ⟨_, rfl, _, _, _, _, rfl, rfl, SqL.of hp, rfl, .inl ⟨_, rfl, _, rfl, _, _, rfl, rfl, hm0, ?_⟩⟩
        refine ⟨_, rfl, _, _, _, _, rfl, rfl, SqL.of hp, rfl, _, rfl, _, _, rfl, rfl, wide_div hm0 (b := 100) (by omega) (by decide) (by decide), _, rfl, p, _, _, _, rfl, rfl, hp, rfl, ?_⟩
        exact ⟨_, rfl, k _ _ (Int.emod_nonneg _ (by omega)) (Int.emod_lt_of_pos _ hm0) ⟨⟨_, _, _, _, upd_same, hi, Int.ediv_nonneg hc (Int.le_of_lt hm0)⟩, (upd_ne hne.symm).trans hq, hfew, hne⟩ (But.trans hB But.upd)⟩
      · -- _law_src[4] = _law_src[4] + 1
        refine ⟨_, rfl, _, _, _, _, rfl, rfl, SqL.of hp, rfl, _, _, rfl, rfl, _, rfl, p, _, _, _, rfl, rfl, hp, rfl, ?_⟩
        -- _law_root
        refine ⟨fun σ H2 => ∃ root : Int, 0 ≤ root ∧ root < 2147483629 ∧ σ = [some (.ref p), some (.int m), cell, none, some (.int root), none] ∧ H2 = upd H1 p (.lst (srcL q i c seed (n + 1))), ?_, ?_⟩
        · refine ⟨_, rfl, _, _, _, _, rfl, rfl, SqL.of upd_same, rfl, _, rfl, _, _, _, _, rfl, rfl, SqL.of upd_same, rfl, _, _, rfl, rfl, .inr ⟨by decide, by decide⟩, _, _, rfl, rfl, .inl ⟨_, rfl, _, _, rfl, rfl, (by show (0 : Int) < 2147483629; decide), ?_⟩⟩
          exact ⟨_, Int.emod_nonneg _ (by decide), Int.emod_lt_of_pos _ (by decide), rfl, rfl⟩
        · rintro σ H2 ⟨root, r0, r1, rfl, rfl⟩
          -- _law_grown
          refine ⟨_, rfl, _, rfl, _, _, rfl, rfl, .inl ⟨by omega, by omega⟩, .inl ⟨_, rfl, _, _, rfl, rfl, (by show (0 : Int) < 2147483399; decide), ?_⟩⟩
          refine ⟨_, rfl, .inl ⟨_, rfl, _, _, rfl, rfl, (by show (0 : Int) < 39989; decide), _, _, rfl, rfl, _, _, rfl, rfl, .inl ⟨?_, ?_⟩, ?_⟩⟩
          · exact Int.lt_of_lt_of_le (by decide) (Int.emod_nonneg _ (by decide))
          · exact Int.lt_of_lt_of_le (Int.emod_lt_of_pos _ (by decide)) (by decide)
          -- _law_src[3]
          refine ⟨_, rfl, _, rfl, _, _, rfl, rfl, .inl ⟨by decide, by decide⟩, _, _, rfl, rfl, _, _, rfl, rfl, .inl ⟨_, rfl, _, _, rfl, rfl, (by show (0 : Int) < 2147483549; decide), _, rfl, p, _, _, _, rfl, rfl, upd_same, rfl, ?_⟩⟩
          -- return
          refine ⟨_, rfl, _, _, _, _, rfl, rfl, SqL.of upd_same, rfl, _, _, rfl, rfl, ⟨by decide, by decide⟩, _, rfl, _, _, _, _, rfl, rfl, SqL.of upd_same, rfl, .inl ⟨_, rfl, _, _, rfl, rfl, (by show (0 : Int) < 8521; decide), _, _, rfl, rfl, .inr ⟨by decide, by decide⟩, _, _, rfl, rfl, .inl ⟨_, rfl, _, rfl, _, _, rfl, rfl, hm0, ?_⟩⟩⟩
          exact k _ _ (Int.emod_nonneg _ (by omega)) (Int.emod_lt_of_pos _ hm0) ⟨⟨_, _, _, _, upd_same, hi, hc⟩, by rw [upd_ne hne.symm, upd_ne hne.symm]; exact hq, hfew, hne⟩ (But.trans hB (But.trans But.upd But.upd))
theorem ok_source {f : Addr} {fd : FuncData} (F : Fun K "_law_source" "_law_source" sSource f fd) (T : Nm mg) : FnOk P w K mg base CX0 1 f fd ["_law_script"] (spSource K) := by
  refine F.ok scSource (fun vs H Q E h => ?_) (fun cdv A outer s H vs Q E hr h => ?_)
  · obtain ⟨a, ns, rfl, _⟩ := h
    rfl
  · obtain ⟨a, ns, rfl, hS, hl, k⟩ := h
    have nd := scSource.nd
    have cut : cutV (ns.map V.int) none (some 63) = ns.map V.int := by
      unfold cutV HT.sIx
      rw [List.drop_zero, List.length_map]
      refine List.take_of_length_le ?_
      rw [List.length_map]
      show ns.length ≤ min 63 ns.length - 0
      omega
    refine ⟨_, pss_cons (ps_set (i := 1) nd rfl (Or.inl rfl) pe_int)
      (pss_cons (ps_for PassesOwn.never rfl (pi_list (pe_slice sl_list (pv 0) po_none (po_some pe_int))) (pg_name (i := 2) nd rfl (Or.inl rfl))
        (pss_one (ps_set (i := 1) nd rfl (Or.inl rfl) (pe_op op_mod (pe_callTy call_int1 (by rfl) T.int (by decide +kernel) (pa_cons (pe_op op_add (pe_op op_add (pe_op op_mul (pv 1) pe_int)
            (pe_op op_mod (pe_callTy call_int1 (by rfl) T.int (by decide +kernel) (pa_cons (pv 2) pa_nil)) pe_int)) pe_int) pa_nil)) pe_int))))
      (pss_one (ps_ret (pe_lst (pa_cons (pe_callTy call_list_of (by rfl) T.list (by decide +kernel) (pa_cons (pe_slice sl_list (pv 0) po_none (po_some pe_int)) pa_nil))
        (pa_cons pe_int (pa_cons pe_int (pa_cons (pv 1) (pa_cons pe_int pa_nil))))))))), ?_⟩
    refine ⟨_, rfl, _, rfl, a, _, rfl, hS, fun u hu => ?_⟩
    rw [cut]
    have sm : Same H (upd H u (.lst (ns.map V.int))) := fun b o e => by rw [upd_ne (ne_of_none e hu)]; exact e
    refine ⟨u, rfl, ⟨_, SqL.of upd_same⟩, for_list (K := K) (a := u) (xs := ns.map V.int) (fun i σ H2 => ∃ (sd : Int) (v : Option V), σ = [some (.ref a), some (.int sd), v] ∧ H2 = upd H u (.lst (ns.map V.int)))
      ⟨_, _, rfl, rfl⟩ (fun i σ H2 _ ⟨_, _, _, e⟩ => e ▸ SqL.of upd_same) ?_ ?_⟩
    · rintro i y σ H2 hi ⟨sd, v, rfl, rfl⟩
      obtain ⟨z, rfl⟩ : ∃ z, y = V.int z := by
        rw [List.getElem?_map] at hi
        obtain ⟨z, _, e⟩ := Option.map_eq_some_iff.mp hi
        exact ⟨z, e.symm⟩
      exact ⟨_, rfl, _, _, rfl, rfl, .inr ⟨by decide, by decide⟩, _, rfl, .inl ⟨_, rfl, _, _, rfl, rfl, (by show (0 : Int) < 2147483353; decide), _, _, rfl, rfl, _, _, rfl, rfl, .inl ⟨_, rfl, _, _, rfl, rfl, (by show (0 : Int) < 2147483587; decide), _, _, rfl, rfl⟩⟩⟩
    · rintro σ H2 ⟨sd, v, rfl, rfl⟩
      refine ⟨_, rfl, _, rfl, a, _, rfl, sm.seq hS, fun u2 hu2 => ?_⟩
      rw [cut]
      refine ⟨u2, _, rfl, .inl (SqL.of upd_same), fun u3 hu3 => ⟨_, rfl, by show 5 ≤ sizeLine; decide, fun p hp => ?_⟩⟩
      have n3 : u3 ≠ p := fun z => by rw [z, upd_same] at hp; cases hp
      have sm2 : Same H (upd (upd (upd H u (.lst (ns.map V.int))) u2 (.lst (ns.map V.int))) u3 (.lst (ns.map V.int))) := fun b o e => by
        rw [upd_ne (ne_of_none (by rw [upd_ne (ne_of_none (sm b o e) hu2)]; exact sm b o e) hu3), upd_ne (ne_of_none (sm b o e) hu2)]
        exact sm b o e
      have sm3 : Same H (upd (upd (upd H u (.lst (ns.map V.int))) u2 (.lst (ns.map V.int))) u3 (.lst (ns.map V.int))) := sm2
      refine k p u3 _ (sm2.free hp) ?_ (fun b o e => ?_) ⟨⟨0, 0, sd, 0, upd_same, Int.le_refl _, Int.le_refl _⟩, ?_, hl, n3.symm⟩
      · have e1 : Same H (upd (upd H u (.lst (ns.map V.int))) u2 (.lst (ns.map V.int))) := fun b o e => by
          rw [upd_ne (ne_of_none (sm b o e) hu2)]
          exact sm b o e
        exact e1.free hu3
      · rw [upd_ne (ne_of_none (sm2 b o e) hp)]
        exact sm2 b o e
      · rw [upd_ne n3, upd_same]
/-! ### one of some things; are two data shown alike -/
def spSame (K : PySem.W.Frag) : Sp := fun vs H Q _ => ∃ (x y : V) (d e : PyData), vs = [x, y] ∧ Dp K H x d ∧ Dp K H y e ∧ Sm d ∧ Sm e ∧ Q (.bl (decide (d.shown = e.shown))) H
theorem scSame : FnScope ["_law_found", "_law_due"] ["_law_found", "_law_due"] (defScope sSame) := ⟨rfl, rfl, rfl, by decide +kernel, rfl, by decide +kernel, by decide +kernel⟩
theorem ok_same {f : Addr} {fd : FuncData} (F : Fun K "_law_same" "_law_same" sSame f fd) (T : Nm mg) : FnG P w K mg base CX0 1 f fd ["_law_found", "_law_due"] (spSame K) := by
  refine okG F scSame (fun vs H Q E h => ?_) (fun cdv A outer s H vs Q E hG hr h => ?_)
  · obtain ⟨x, y, d, e, rfl, _⟩ := h
    rfl
  · obtain ⟨x, y, d, e, rfl, hx, hy, sd, se, k⟩ := h
    refine ⟨_, pss_one (ps_ret (pe_cmpR op_eq (pe_callB (call_repr hG hr.units) (by rfl) T.repr (by decide +kernel) (pa_cons (pv 0) pa_nil)) (pe_callB (call_repr hG hr.units) (by rfl) T.repr (by decide +kernel) (pa_cons (pv 1) pa_nil)) (nomark _))), ?_⟩
    refine ⟨_, rfl, _, d, rfl, hx, sd, _, rfl, _, e, rfl, hy, se, rfl, ?_⟩
    have q : decide (V.str d.shown = V.str e.shown) = decide (d.shown = e.shown) := by
      by_cases z : d.shown = e.shown
      · rw [z, decide_eq_true rfl, decide_eq_true rfl]
      · rw [decide_eq_false z, decide_eq_false fun y => z (V.str.inj y)]
    show Q (.bl (decide (V.str d.shown = V.str e.shown))) H
    rw [q]
    exact k
end
end Lw

set_option maxRecDepth 100000
set_option linter.unusedVariables false
namespace Lw
open PySem PySem.Spec PyProof.Rows L2 VG
/-! the texts of the classes, the tables -/
def clsBody : Stmt → List Stmt
  | .ClassDef (body := b) .. => b
  | _ => []
abbrev kInit : Stmt := inClass s_Script 2
abbrev kRead : Stmt := inClass s_Script 3
abbrev kLayers : Stmt := inClass s_Script 4
abbrev kTests : Stmt := inClass s_Script 5
abbrev kPuts : Stmt := inClass s_Script 6
abbrev kNames : Stmt := inClass s_Script 7
abbrev kEnds : Stmt := inClass s_Script 8
abbrev kSteps : Stmt := inClass s_Script 9
abbrev kText : Stmt := inClass s_Script 10
abbrev kEq : Stmt := inClass s_Script 17
abbrev kLen : Stmt := inClass s_Script 18
abbrev kBool : Stmt := inClass s_Script 19
abbrev kRepr : Stmt := inClass s_Script 20
def SHL : List (Str × List Str) := [("road", ["layer", "name", "name", "length"]), ("ride", ["layer", "name", "name", "length"]), ("place", ["new", "name", "length", "length"]), ("same", ["name", "name"]), ("forget", ["name"]), ("cap", ["layer", "length"]), ("scale", ["layer", "scale"]), ("turn", []), ("round", ["layer"])]
def askK : List Str := ["layer", "name", "name", "length"]
def brKs (u : Str) : List Str := if u = "if" then ["layer", "name", "name", "length", "steps", "steps"] else ["times", "steps"]
end Lw

set_option maxRecDepth 100000
set_option maxHeartbeats 0
namespace Lw
open PySem PySem.Spec PyProof.Rows L2 VG
abbrev R : PySem.W.OpenRow := PySem.W.OpenLaw.row PySem.Challenge.rw_missingmiles_k27_sizes_of_scripts_refuse
def glb (x : Str) (st : Stmt) (dfl : List He.Dv) : He.DefD := ⟨(x, none), x, x, defArgs st, defBody st, defScope st, dfl, []⟩
def mth (C m : Str) (st : Stmt) : He.DefD := ⟨(C, some m), m, C ++ "." ++ m, defArgs st, defBody st, defScope st, [], []⟩
def mthD (C m : Str) (st : Stmt) (dfl : List He.Dv) (kwd : List (Str × He.Dv)) : He.DefD := ⟨(C, some m), m, C ++ "." ++ m, defArgs st, defBody st, defScope st, dfl, kwd⟩
/-- a number under a name of the top -/
def gintB (K : PySem.W.Frag) (x : Str) (n : Int) : Bool := match PySem.W.nsIn K mainGlobals x with
  | some (some (.int m _)) => decide (m = n)
  | _ => false
theorem gintB_ok {K : PySem.W.Frag} {h : Heap} {mg : Str → Option Value} {x : Str} {n : Int} (X : K.In h) (G : h.Ns mainGlobals mg) (e : gintB K x n = true) : ∃ u, mg x = some u ∧ RelV (.int n) u := by
  unfold gintB at e
  split at e
  · rename_i m t q
    have z := of_decide_eq_true e
    subst z
    exact ⟨_, PySem.W.mg_of X G q, ⟨t, rfl⟩⟩
  · cases e
/-- a word's kinds in the table of shapes -/
def shpT (K : PySem.W.Frag) (T : Addr) (ks : List Str) : Bool := match K.lookup T with
  | some ⟨.type c, _, .seq its _, _⟩ => decide (c = "tuple") && (decide (its.size ≤ sizeLine) && He.relAll (ks.map V.str) its.toList)
  | _ => false
def shpB (K : PySem.W.Frag) (s : Str × List Str) : Bool := match PySem.W.nsIn K (He.ga K "SHAPES") s.1 with
  | some (some (.ref T)) => shpT K T s.2
  | _ => false
theorem shpT_ok {K : PySem.W.Frag} {T : Addr} {ks : List Str} (h : shpT K T ks = true) (H : Hp) : SqT K H T (ks.map V.str) := by
  unfold shpT at h
  split at h
  · rename_i c _ its n _ q
    obtain ⟨h1, h2⟩ := He.ba h
    obtain ⟨h3, h4⟩ := He.ba h2
    exact .inr ⟨_, its, n, q, congrArg Value.type (of_decide_eq_true h1), rfl, of_decide_eq_true h3, He.relAll_ok h4⟩
  · cases h
theorem shpB_ok {K : PySem.W.Frag} {s : Str × List Str} (h : shpB K s = true) : ∃ T : Addr, PySem.W.nsIn K (He.ga K "SHAPES") s.1 = some (some (.ref T)) ∧ ∀ H, SqT K H T (s.2.map V.str) := by
  unfold shpB at h
  split at h
  · rename_i T q
    exact ⟨T, q, fun H => shpT_ok h H⟩
  · cases h
def BRL : List Str := ["if", "repeat"]
def brB (K : PySem.W.Frag) (u : Str) : Bool := match PySem.W.nsIn K (He.ga K "BRANCHES") u with
  | some (some (.ref T)) => shpT K T (brKs u)
  | _ => false
theorem brB_ok {K : PySem.W.Frag} {u : Str} (h : brB K u = true) : ∃ T : Addr, PySem.W.nsIn K (He.ga K "BRANCHES") u = some (some (.ref T)) ∧ ∀ H, SqT K H T ((brKs u).map V.str) := by
  unfold brB at h
  split at h
  · rename_i T q
    exact ⟨T, q, fun H => shpT_ok h H⟩
  · cases h
def tabs : List He.Tab := [(fun K => He.ga K "SHAPES", SHL.map Prod.fst), (fun K => He.ga K "BRANCHES", BRL)]
/-- the first default of a def -/
def dflN (x : Str × Option Str) (K : PySem.W.Frag) : Addr := match K.lookup (He.fAd K x) with
  | some ⟨_, _, .func fd, _⟩ => (match fd.defaults with
    | .ref T => (match K.lookup T with
      | some ⟨_, _, .seq its _, _⟩ => (match its.toList with
        | .ref e :: _ => e
        | _ => 0)
      | _ => 0)
    | _ => 0)
  | _ => 0
def pTests : ProD := ⟨"Script", "tests", kTests⟩
def pPuts : ProD := ⟨"Script", "puts", kPuts⟩
def pros : List ProD := [pTests, pPuts]
def stas : List ProD := []
def xtr : List Str := ["check_steps", "names_behind"]
def sIni0 : Stmt := (clsBody s_TooMany).getD 0 (.Pass ⟨0, 0, 0, 0⟩)
def sIni1 : Stmt := (clsBody s_DuplicateName).getD 0 (.Pass ⟨0, 0, 0, 0⟩)
def sIni2 : Stmt := (clsBody s_UnlikeEnds).getD 0 (.Pass ⟨0, 0, 0, 0⟩)
def sIni3 : Stmt := (clsBody s_UnknownName).getD 0 (.Pass ⟨0, 0, 0, 0⟩)
def more0 (K : PySem.W.Frag) : Bool := decide (PySem.W.nsIn K mainGlobals "gcd" = some (some (.builtin "math.gcd"))) && (gintB K "MOST_PUTS" 3 && (gintB K "MOST_AT_FIRST" 3 && (gintB K "MOST_DEEP" 3 && (gintB K "MOST_TIMES" 3 && (gintB K "MOST_NAMES" 5 && (He.tupB K "LAYERS" [.str "foot", .str "cart"] && (SHL.all (shpB K) && ((BRL.all fun u => decide (PySem.W.nsIn K (He.ga K "SHAPES") u = some none)) && (BRL.all (brB K) && ((SHL.all fun s => decide (PySem.W.nsIn K (He.ga K "BRANCHES") s.1 = some none)) && (nilB K (dflN ("check_steps", none) K))))))))))))
def more1 (K : PySem.W.Frag) : Bool := nilB K (dflN ("names_behind", none) K) && (He.conB K "Script" "MOST" (.int 12) && (He.conB K "Script" "TESTS" (.int 3) && (proB K pTests && (proB K pPuts && (errB K "TooMany" && (iniB K "TooMany" R.prog.main.file && (decide (PySem.W.exmAny K (.ref (He.ga K "TooMany")) [.ref (He.ga K "MilesError"), .ref (He.ga K "Missing"), .ref (He.ga K "NothingLeft")] = some true) && (errB K "DuplicateName" && (iniB K "DuplicateName" R.prog.main.file && (decide (PySem.W.exmAny K (.ref (He.ga K "DuplicateName")) [.ref (He.ga K "MilesError"), .ref (He.ga K "Missing"), .ref (He.ga K "NothingLeft")] = some true) && (errB K "UnlikeEnds")))))))))))
def more2 (K : PySem.W.Frag) : Bool := iniB K "UnlikeEnds" R.prog.main.file && (decide (PySem.W.exmAny K (.ref (He.ga K "UnlikeEnds")) [.ref (He.ga K "MilesError"), .ref (He.ga K "Missing"), .ref (He.ga K "NothingLeft")] = some true) && (errLB K "UnknownName" && (iniLB K "UnknownName" R.prog.main.file && (decide (PySem.W.exmAny K (.ref (He.ga K "UnknownName")) [.ref (He.ga K "MilesError"), .ref (He.ga K "Missing"), .ref (He.ga K "NothingLeft")] = some true)))))
def fns : List He.DefD := [glb "law" sLaw [],
  glb "_law_source" sSource [],
  glb "_law_draw" sDraw [],
  glb "_law_same" sSame [],
  glb "_law_fields" s__law_fields [],
  glb "_law_ask" s__law_ask [],
  glb "copied" s_copied [],
  glb "_is_whole" s__is_whole [],
  glb "is_number" s_is_number [],
  glb "is_ratio" s_is_ratio [],
  glb "can_be_ratio" s_can_be_ratio [],
  glb "is_length" s_is_length [],
  glb "is_scale" s_is_scale [],
  glb "ratio_of" s_ratio_of [],
  glb "_figures" s__figures [],
  glb "ratio_text" s_ratio_text [],
  glb "_are_letters" s__are_letters [],
  glb "is_name" s_is_name [],
  glb "is_layer" s_is_layer [.int 2],
  glb "is_item" s_is_item [.int 2],
  glb "are_items" s_are_items [.int 2],
  glb "known_names" s_known_names [],
  glb "inner_steps" s_inner_steps [],
  glb "times_of" s_times_of [],
  glb "is_leaf" s_is_leaf [.int 2],
  glb "check_names" s_check_names [],
  glb "check_layers" s_check_layers [],
  glb "_is_step" s__is_step [],
  glb "check_steps" s_check_steps [.adr (dflN ("check_steps", none))],
  glb "count_steps" s_count_steps [],
  glb "count_word" s_count_word [],
  glb "names_behind" s_names_behind [.adr (dflN ("names_behind", none)), .int 0],
  glb "_names_behind_step" s__names_behind_step [],
  glb "_names_behind_if" s__names_behind_if [],
  glb "_names_behind_repeat" s__names_behind_repeat [],
  glb "_names_with" s__names_with [],
  glb "text_of" s_text_of [],
  glb "_words_of" s__words_of [],
  glb "_step_words" s__step_words [],
  glb "_item_words" s__item_words [],
  glb "_bracketed" s__bracketed [],
  mthD "Script" "__init__" kInit [.adr (dflN ("Script", some "__init__"))] [("layers", .int 1)],
  mth "Script" "__len__" kLen]
def fas : List He.Fa := [.glo "law", .glo "_law_source", .glo "_law_draw", .glo "_law_same", .glo "_law_fields", .glo "_law_ask", .glo "copied", .glo "_is_whole", .glo "is_number", .glo "is_ratio", .glo "can_be_ratio", .glo "is_length", .glo "is_scale", .glo "ratio_of", .glo "_figures", .glo "ratio_text", .glo "_are_letters", .glo "is_name", .glo "is_layer", .glo "is_item", .glo "are_items", .glo "known_names", .glo "inner_steps", .glo "times_of", .glo "is_leaf", .glo "check_names", .glo "check_layers", .glo "_is_step", .glo "check_steps", .glo "count_steps", .glo "count_word", .glo "names_behind", .glo "_names_behind_step", .glo "_names_behind_if", .glo "_names_behind_repeat", .glo "_names_with", .glo "text_of", .glo "_words_of", .glo "_step_words", .glo "_item_words", .glo "_bracketed", .mkr "Script", .meth "Script" "__len__", .glo "Script", .cls "Script", .noat "Script" "_names", .noat "Script" "_layers", .noat "Script" "_steps", .noat "Script" "_tests", .noat "Script" "_puts", .noat "Script" "_ends", .noat "Script" "_text", .glo "SHAPES", .glo "ASKED", .glo "LAYERS", .glo "BRANCHES", .glo "InvalidRatio", .glo "MilesError", .glo "Missing", .glo "NothingLeft", .glo "TooMany", .glo "DuplicateName", .glo "UnlikeEnds", .glo "UnknownName", .free "int", .free "len", .free "list", .free "repr", .free "isinstance", .free "bool", .free "range", .free "tuple", .free "abs", .free "str", .free "sorted", .free "sum", .free "zip", .free "all", .free "enumerate", .free "super"]
def more (K : PySem.W.Frag) : Bool := more0 K && (more1 K && (more2 K))
def ins : List IniD := [⟨"TooMany", sIni0⟩, ⟨"DuplicateName", sIni1⟩, ⟨"UnlikeEnds", sIni2⟩, ⟨"UnknownName", sIni3⟩]
def tfs : List He.Defn := [("law", none)]
abbrev hk : PySem.W.Hook := hookS 2 fas fns tabs tfs more ins pros stas xtr
def ob (s : PySem.W.SharedT) : AlS := obsS 2 fas fns tabs tfs more ins pros stas xtr (HandSHeadRun.getT s)
theorem ob_eq (s : PySem.W.SharedT) : ob s = hk.obs s.abs := obsS_eq (HandSHeadRun.getT_eq s)
def loose : List Str := (["gcd", "_law_source", "_law_draw", "_law_same", "_law_fields", "_law_ask", "copied", "_is_whole", "is_number", "is_ratio", "can_be_ratio", "is_length", "is_scale", "ratio_of", "_figures", "ratio_text", "_are_letters", "is_name", "is_layer", "is_item", "are_items", "known_names", "inner_steps", "times_of", "is_leaf", "check_names", "check_layers", "_is_step", "check_steps", "count_steps"] : List Str) ++ (["count_word", "names_behind", "_names_behind_step", "_names_behind_if", "_names_behind_repeat", "_names_with", "text_of", "_words_of", "_step_words", "_item_words", "_bracketed", "Script", "SHAPES", "ASKED", "LAYERS", "BRANCHES", "InvalidRatio", "MilesError", "Missing", "NothingLeft", "TooMany", "DuplicateName", "UnlikeEnds", "UnknownName", "_wall", "InvalidNumber", "InvalidName", "InvalidStep", "InvalidText", "UnlikeScripts"] : List Str) ++ (["MOST_FIGURES", "_are_figures", "read_ratio", "ratio_or_none", "MOST_TIMES", "MOST_NAMES", "names_text", "MOST_AT_FIRST", "MOST_DEEP", "MOST_OPEN", "read_steps", "Reader", "MOST_PUTS"] : List Str)
end Lw

set_option maxRecDepth 100000
set_option maxHeartbeats 0
namespace Lw
section
open PySem PySem.W PySem.Calls PyProof.Rows HandSHeadRun VG
theorem runAF (w : PySem.World) : (wholeF (fun p => stepQ (denQ tabQ) p (w.withFollow "special-get-raises" false)) fenceQ 8000 R.prog).map (fun x => (looksF R.prog x.1.heap x.2.abs, seenQ (PySem.W.view R.prog [0, 84]) loose (importedModules R.prog.main.body) (fun s => xlAt (PySem.W.view R.prog [0, 84]) [] s && recOk R.records s) x.2.abs)) = some (true, openGood (PySem.W.view R.prog [0, 84]) loose) := by
  kernel_rfl
theorem runBF (w : PySem.World) : (wholeF (fun p => stepQ (denQ tabQ) p (w.withFollow "special-get-raises" false)) fenceQ 8000 R.prog).map (fun x => ob x.2) = some (hk.val (w.withFollow "special-get-raises" false)) := by
  kernel_rfl
theorem runF (w : PySem.World) : HandSHeadRun.RunEqI R (PySem.W.view R.prog [0, 84]) hk ob 8000 loose (w.withFollow "special-get-raises" false) := by
  unfold HandSHeadRun.RunEqI
  have a := runAF w
  have b := runBF w
  generalize (wholeF (fun p => stepQ (denQ tabQ) p (w.withFollow "special-get-raises" false)) fenceQ 8000 R.prog) = r at a b ⊢
  match r, a, b with
  | some x, a, b =>
    simp only [Option.map_some, Option.some.injEq, Prod.mk.injEq] at a b ⊢
    exact ⟨a.1, Prod.ext a.2 (Option.some.inj b)⟩
theorem runAT (w : PySem.World) : (wholeF (fun p => stepQ (denQ tabQ) p (w.withFollow "special-get-raises" true)) fenceQ 8000 R.prog).map (fun x => (looksF R.prog x.1.heap x.2.abs, seenQ (PySem.W.view R.prog [0, 84]) loose (importedModules R.prog.main.body) (fun s => xlAt (PySem.W.view R.prog [0, 84]) [] s && recOk R.records s) x.2.abs)) = some (true, openGood (PySem.W.view R.prog [0, 84]) loose) := by
  kernel_rfl
theorem runBT (w : PySem.World) : (wholeF (fun p => stepQ (denQ tabQ) p (w.withFollow "special-get-raises" true)) fenceQ 8000 R.prog).map (fun x => ob x.2) = some (hk.val (w.withFollow "special-get-raises" true)) := by
  kernel_rfl
theorem runT (w : PySem.World) : HandSHeadRun.RunEqI R (PySem.W.view R.prog [0, 84]) hk ob 8000 loose (w.withFollow "special-get-raises" true) := by
  unfold HandSHeadRun.RunEqI
  have a := runAT w
  have b := runBT w
  generalize (wholeF (fun p => stepQ (denQ tabQ) p (w.withFollow "special-get-raises" true)) fenceQ 8000 R.prog) = r at a b ⊢
  match r, a, b with
  | some x, a, b =>
    simp only [Option.map_some, Option.some.injEq, Prod.mk.injEq] at a b ⊢
    exact ⟨a.1, Prod.ext a.2 (Option.some.inj b)⟩
theorem run (w : PySem.World) : HandSHeadRun.RunEqI R (PySem.W.view R.prog [0, 84]) hk ob 8000 loose w := PySem.W.byRow2 "special-get-raises" (P := fun w => HandSHeadRun.RunEqI R (PySem.W.view R.prog [0, 84]) hk ob 8000 loose w) runF runT w
end
end Lw

set_option maxRecDepth 100000
/-! zip of two sequences, each a list or a tuple. -/
namespace VG
open PySem PySem.Spec PyProof.Rows L2
inductive Kd | l | t
def Kd.sq (K : PySem.W.Frag) (H : Hp) (a : Addr) (xs : List V) : Kd → Prop
  | .l => SqL K H a xs
  | .t => SqT K H a xs
def Kd.iter (h : Heap) (it a : Addr) (i : Nat) : Kd → Prop
  | .l => h.IsListIter it a i
  | .t => h.IsTupleIter it a i
def Kd.is (h : Heap) (a : Addr) (its : Array Value) : Kd → Prop
  | .l => h.IsList a its
  | .t => h.IsTuple a its
def Kd.obj (a : Addr) : Kd → Obj
  | .l => { cls := .type "list_iterator", data := .fields #[.ref a, .int 0 0] }
  | .t => { cls := .type "tuple_iterator", data := .fields #[.ref a, .int 0 0] }
theorem Kd.same {K : PySem.W.Frag} {H H' : Hp} {a : Addr} {xs : List V} (e : Same H H') : ∀ {k : Kd}, k.sq K H a xs → k.sq K H' a xs
  | .l, h => e.seq h
  | .t, h => Same.tup e h
theorem Kd.draws {P : Program} {w : World} {A : Around} (hh : A.handled = none) (it a : Addr) (hne : a ≠ it) (items : Array Value) : ∀ k : Kd, Draws P w A it [it, a] items.size (fun i v => items[i]? = some v) (fun i h => k.iter h it a i ∧ k.is h a items)
  | .l => Draws.list hh it a hne items
  | .t => Draws.tuple hh it a hne items
theorem Kd.begins (a : Addr) (items : Array Value) : ∀ k : Kd, Begins (.ref a) (k.obj a) fun h => k.is h a items
  | .l => begins_list a items
  | .t => begins_tuple a items
theorem Kd.start {h : Heap} {it a : Addr} : ∀ {k : Kd}, h.get? it = some (k.obj a) → k.iter h it a 0
  | .l, e => ⟨_, e, rfl, rfl⟩
  | .t, e => ⟨_, e, rfl, rfl⟩
theorem Kd.ito {h : Heap} {it a : Addr} {i : Nat} : ∀ {k : Kd}, k.iter h it a i → ∃ o, h.get? it = some o ∧ ∀ v, o.data ≠ .cell v
  | .l, ⟨o, e, _, d⟩ => ⟨o, e, fun v q => by rw [d] at q; cases q⟩
  | .t, ⟨o, e, _, d⟩ => ⟨o, e, fun v q => by rw [d] at q; cases q⟩
theorem Kd.itk {h h' : Heap} {it a : Addr} {i : Nat} : ∀ {k : Kd}, k.iter h it a i → (∀ o, h.get? it = some o → h'.get? it = some o) → k.iter h' it a i
  | .l, h1, f => h1.at fun o q => f o q
  | .t, h1, f => h1.at fun o q => f o q
section
variable {X : Cx} {pins : List (Addr × Obj)} {σ : L2.St} {H : Hp} {s : Shared}
theorem Kd.of (I : Inv X pins σ H s) {a : Addr} {xs : List V} : ∀ {k : Kd}, k.sq X.K H a xs → ∃ its : List Value, Vals xs its ∧ k.is s.heap a its.toArray ∧ a < s.heap.objs.size
  | .l, h => by
    obtain ⟨its, rv, p, _⟩ := I.list h
    exact ⟨its, rv, p.isList, p.lt⟩
  | .t, h => by
    obtain ⟨its, rv, p, _⟩ := I.tuple h
    obtain ⟨o, e, _⟩ := id p
    exact ⟨its, rv, p, Heap.lt_size e⟩
theorem Kd.inj (I : Inv X pins σ H s) {a : Addr} {xs ys : List V} : ∀ {k : Kd}, k.sq X.K H a xs → k.sq X.K H a ys → xs = ys
  | .l, h, h' => I.list_inj h h'
  | .t, h, h' => I.tuple_inj h h'
end
/-- the items of two sequences, in new pairs -/
def ItzG (K : PySem.W.Frag) (k1 k2 : Kd) (a b : Addr) : It :=
  ⟨fun i H => ∃ (xs ys : List V) (x y : V), k1.sq K H a xs ∧ k2.sq K H b ys ∧ xs[i]? = some x ∧ ys[i]? = some y,
    fun i H v H' => ∃ T x y, v = .ref T ∧ H T = none ∧ H' = upd H T (.tup [x, y]) ∧ (∀ xs, k1.sq K H a xs → xs[i]? = some x) ∧ ∀ ys, k2.sq K H b ys → ys[i]? = some y,
    fun i H => ∃ xs ys : List V, k1.sq K H a xs ∧ k2.sq K H b ys ∧ ((xs.length = i ∧ i ≤ ys.length) ∨ (ys.length = i ∧ i ≤ xs.length))⟩
theorem apart_sep {z TI TO i1 i2 a b : Addr} (D : ZipApart z TI TO i1 i2 a b) : ZipSep2 z TI TO i1 i2 [i1, a] [i2, b] where
  TIz := D.TIz
  TOz := D.TOz
  TITO := D.TITO
  TIi1 := D.TIi1
  mem1 := by simp
  zf1 := by simp [D.i1z.symm, D.l1z.symm]
  Tf1 := by simp [D.TOi1, D.l1TO.symm]
  TIi2 := D.TIi2
  mem2 := by simp
  zf2 := by simp [D.i2z.symm, D.l2z.symm]
  Tf2 := by simp [D.TOi2, D.l2TO.symm]
  sep1_2 := by simp [D.i12, D.l2i1.symm]
  sep2_1 := by simp [D.i12.symm, D.l1i2.symm]
theorem turn_zipG {P : Program} {w : World} {K : PySem.W.Frag} {elts : List Expr} {kk : Nat} {tpos : Pos} {k1 k2 : Kd} {a b z TI TO i1 i2 : Addr} (D : ZipApart z TI TO i1 i2 a b) :
    Turn P w K (.Tuple elts kk tpos) (ItzG K k1 k2 a b) [z, TI, TO, i1, i2] z (fun i h => IsZip h z TI TO .none ∧ IsTupOf2 h TI (.ref i1) (.ref i2) ∧ (∃ x y, IsTupOf2 h TO x y) ∧ k1.iter h i1 a i ∧ k2.iter h i2 b i) where
  mem := by simp
  obj := fun i h st c hc => by
    obtain ⟨hz, hTI, ⟨x, y, hTO⟩, e1, e2⟩ := st
    have e' : c = z ∨ c = TI ∨ c = TO ∨ c = i1 ∨ c = i2 := by simpa using hc
    rcases e' with q | q | q | q | q
    · rw [q]; exact ⟨_, hz, fun v q => nomatch q⟩
    · rw [q]; exact ⟨_, hTI, fun v q => nomatch q⟩
    · rw [q]; exact ⟨_, hTO, fun v q => nomatch q⟩
    · rw [q]; exact Kd.ito e1
    · rw [q]; exact Kd.ito e2
  keep := fun i h h' st k => by
    obtain ⟨hz, hTI, ⟨x, y, hTO⟩, h1, h2⟩ := st
    exact ⟨k z (by simp) _ hz, k TI (by simp) _ hTI, ⟨x, y, k TO (by simp) _ hTO⟩, Kd.itk h1 fun o q => k i1 (by simp) o q, Kd.itk h2 fun o q => k i2 (by simp) o q⟩
  item := by
    intro X hP hw hK hc i pins s σ H E I hf st hg
    subst hP hw hK
    obtain ⟨hz, hTI, ⟨x0, y0, hTO⟩, h1, h2⟩ := st
    obtain ⟨xs, ys, x, y, hqx, hqy, hx, hy⟩ := hg
    obtain ⟨its, rv, p, _⟩ := Kd.of I hqx
    obtain ⟨its2, rv2, p2, _⟩ := Kd.of I hqy
    obtain ⟨u, hu, ru⟩ := rv.get hx
    obtain ⟨u2, hu2, ru2⟩ := rv2.get hy
    have hzl : z < s.heap.objs.size := Heap.lt_size hz
    have lt1 : i < its.toArray.size := by
      obtain ⟨q, _⟩ := List.getElem?_eq_some_iff.mp hu
      simpa using q
    have lt2 : i < its2.toArray.size := by
      obtain ⟨q, _⟩ := List.getElem?_eq_some_iff.mp hu2
      simpa using q
    refine wpAny_pyNext_zipD2_item (apart_sep D) (Kd.draws (A := X.A.in1) (I.ok.hd hc) i1 a D.l1i1 its.toArray k1) (Kd.draws (A := X.A.in1) (I.ok.hd hc) i2 b D.l2i2 its2.toArray k2) hz hTI hTO ⟨h1, p⟩ ⟨h2, p2⟩ lt1 lt2 fun v1 v2 h' tk q1 q2 z' TO' st1' st2' hT hsz hk => ?_
    have ev1 : v1 = u := by
      have q1 : its.toArray[i]? = some v1 := q1
      have y : its.toArray[i]? = some u := by simpa using hu
      rw [y] at q1
      exact (Option.some.inj q1).symm
    have ev2 : v2 = u2 := by
      have q2 : its2.toArray[i]? = some v2 := q2
      have y : its2.toArray[i]? = some u2 := by simpa using hu2
      rw [y] at q2
      exact (Option.some.inj q2).symm
    subst ev1 ev2
    refine ⟨_, rfl, wpAny_letOwnedTupleGo_zip (s := { s with heap := h', toks := tk }) z' fun h'' z'' sb => ?_⟩
    have hT2 : h''.get? s.heap.objs.size = some { cls := .type "tuple", data := .seq #[v1, v2] } := (sb.2 _ (Nat.ne_of_gt hzl)).trans hT
    have new : ObjOk X.prog X.w (upd H s.heap.objs.size (.tup [x, y])) h'' s.heap.objs.size (.tup [x, y]) :=
      ⟨by show 2 ≤ sizeLine; decide, [v1, v2], .cons ru (.cons ru2 .nil), ⟨_, hT2, rfl, _, rfl⟩⟩
    have I1 : Inv X pins σ (upd H s.heap.objs.size (.tup [x, y])) { s with heap := h'', toks := tk } :=
      I.turnedNew (t' := tk) (ch := [z, TI, TO, i1, i2]) (fun c o hb q => (sb.2 c (fun q' => hb (by simp [q']))).trans (hk c o (fun q' => hb (by simp [q'])) (fun q' => hb (by simp [q'])) (fun q' => hb (by simp [q'])) (fun q' => hb (by simp [q'])) q)) hf (Nat.le_refl _) new
    refine ⟨.ref s.heap.objs.size, _, I1, rfl, ⟨_, x, y, rfl, I.hok.fresh (Nat.le_refl _), rfl, fun l hl => by rw [Kd.inj I hl hqx]; exact hx, fun l hl => by rw [Kd.inj I hl hqy]; exact hy⟩, ⟨z'', ?_, ⟨v1, v2, ?_⟩, ?_, ?_⟩, fun c hcm => ?_⟩
    · exact (sb.2 _ D.TIz).trans (hk _ _ D.TIz D.TITO D.TIi1 D.TIi2 hTI)
    · exact (sb.2 _ D.TOz).trans TO'
    · exact Kd.itk st1'.1 fun o q => (sb.2 _ D.i1z).trans q
    · exact Kd.itk st2'.1 fun o q => (sb.2 _ D.i2z).trans q
    · have hlt : c < s.heap.objs.size := by
        have e' : c = z ∨ c = TI ∨ c = TO ∨ c = i1 ∨ c = i2 := by simpa using hcm
        rcases e' with q | q | q | q | q
        · rw [q]; exact hzl
        · rw [q]; exact Heap.lt_size hTI
        · rw [q]; exact Heap.lt_size hTO
        · rw [q]; obtain ⟨_, e1, _⟩ := Kd.ito h1; exact Heap.lt_size e1
        · rw [q]; obtain ⟨_, e2, _⟩ := Kd.ito h2; exact Heap.lt_size e2
      rw [upd_ne (Nat.ne_of_lt hlt)]
      exact (hf c hcm).1
  done := by
    intro X hP hw hK hc i pins s σ H E I hf st hg
    subst hP hw hK
    obtain ⟨hz, hTI, ⟨x0, y0, hTO⟩, h1, h2⟩ := st
    obtain ⟨xs, ys, hqx, hqy, hend⟩ := hg
    obtain ⟨its, rv, p, _⟩ := Kd.of I hqx
    obtain ⟨its2, rv2, p2, _⟩ := Kd.of I hqy
    have l1 : its.toArray.size = xs.length := by
      have := rv.length
      simp; omega
    have l2 : its2.toArray.size = ys.length := by
      have := rv2.length
      simp; omega
    refine wpAny_pyNext_zipD2_end (apart_sep D) (Kd.draws (A := X.A.in1) (I.ok.hd hc) i1 a D.l1i1 its.toArray k1) (Kd.draws (A := X.A.in1) (I.ok.hd hc) i2 b D.l2i2 its2.toArray k2) hz hTI hTO ⟨h1, p⟩ ⟨h2, p2⟩ (by omega) (by omega) (by omega) fun h' tk hk => ⟨rfl, I.turnedL (t' := tk) (ch := [z, TI, TO, i1, i2]) (fun c o hb q =>
      hk c o (fun q' => hb (by simp [q'])) (fun q' => hb (by simp [q'])) (fun q' => hb (by simp [q'])) (fun q' => hb (by simp [q'])) q) hf⟩
  self := fun A i s Q E st h => wpAny_pyIter_zip st.1 h
def iZipG (K : PySem.W.Frag) (ta : TA) : TI := fun σ H R => ta σ H fun vs H1 => ∃ a b k1 k2 xs ys, vs = [.ref a, .ref b] ∧ Kd.sq K H1 a xs k1 ∧ Kd.sq K H1 b ys k2 ∧ R (ItzG K k1 k2 a b) H1
theorem pi_zipG {X : Cx} {e e2 : Expr} {ta : TA} {p pos tpos : Pos} {elts : List Expr} {kk : Nat} (hg : Gl X "zip") (hm : X.mg "zip" = none) (ha : PA X [e, e2] ta)
    (hs : starEach [e, e2] X.env = (false, eval e X.env) :: starEach [e2] X.env := by rfl) (hpl : (backTo pos (starEach [e2] X.env)).any (·.1) = false := by rfl) :
    PI X (.Tuple elts kk tpos) (.Call (.Name "zip" p) [e, e2] [] pos) (iZipG X.K ta) := by
  refine ⟨fun pins s σ H R I h => ?_⟩
  refine Call_ (ld_blt I hg hm PyProof.Rows.boot_zip (PyProof.Rows.callWith_type1 (thn (ha.run pos pins s σ H _ I h) fun us s1 ⟨vs, H1, I1, r1, q1⟩ => ?_) hs hpl))
  obtain ⟨a, b, k1, k2, xs, ys, ex, hqx, hqy, q⟩ := q1
  subst ex
  cases r1 with
  | cons r rr =>
    cases rr with
    | cons r' rr =>
      cases rr
      cases r
      cases r'
      have fresh5 : ∀ c, c ∈ [s1.heap.objs.size + 4, s1.heap.objs.size + 2, s1.heap.objs.size + 3, s1.heap.objs.size, s1.heap.objs.size + 1] → FpOk X pins H1 c := fun c hcm => by
        have e' : c = s1.heap.objs.size + 4 ∨ c = s1.heap.objs.size + 2 ∨ c = s1.heap.objs.size + 3 ∨ c = s1.heap.objs.size ∨ c = s1.heap.objs.size + 1 := by simpa using hcm
        have hle : s1.heap.objs.size ≤ c := by
          rcases e' with z | z | z | z | z
          · rw [z]; exact Nat.le_add_right _ _
          · rw [z]; exact Nat.le_add_right _ _
          · rw [z]; exact Nat.le_add_right _ _
          · rw [z]; exact Nat.le_refl _
          · rw [z]; exact Nat.le_add_right _ _
        exact I1.fpOk hle (I1.hok.fresh hle)
      obtain ⟨its, rv, p1, lt1⟩ := Kd.of I1 hqx
      obtain ⟨its2, rv2, p2, lt2⟩ := Kd.of I1 hqy
      refine zip_begins2 (Kd.begins a its.toArray k1) (Kd.begins b its2.toArray k2) p1 p2 fun h' hz hTI hTO h1 h2 hsz hk => wpAny_pyIter_zip hz ?_
      have I2 : Inv X pins σ H1 { s1 with heap := h' } := I1.kept (t' := s1.toks) hk
      exact ⟨s1.heap.objs.size + 4, [s1.heap.objs.size + 4, s1.heap.objs.size + 2, s1.heap.objs.size + 3, s1.heap.objs.size, s1.heap.objs.size + 1], _, _, H1, rfl, I2, turn_zipG (PySem.W.ktu_apart s1.heap.objs.size a b lt1 lt2), ⟨hz, hTI, ⟨_, _, hTO⟩, Kd.start h1, Kd.start h2⟩, fresh5, q⟩
/-- a comprehension over zip of two sequences of one length -/
theorem lc_zipG {K : PySem.W.Frag} {k1 k2 : Kd} {a b : Addr} {xs ys : List V} {g : TG} {tt : TT} {te : TE} {vs : List Nat} {σ : L2.St} {H1 : Hp} {D : Addr} {Qd : Hp → Prop} (hl : xs.length = ys.length) (Pv : Nat → Hp → Prop) (h0 : Pv 0 (upd H1 D (.lst []))) (hq : ∀ i H, i ≤ xs.length → Pv i H → k1.sq K H a xs ∧ k2.sq K H b ys)
    (hs : ∀ i x y T H, xs[i]? = some x → ys[i]? = some y → Pv i H → H T = none → g (.ref T) (wipe σ vs) (upd H T (.tup [x, y])) fun σ2 H2 => wipe σ2 vs = wipe σ vs ∧ tt σ2 H2 fun b H3 =>
      if b = true then te σ2 H3 fun y H4 => ∃ acc, H4 D = some (.lst acc) ∧ acc.length < sizeLine ∧ Pv (i + 1) (upd H4 D (.lst (acc ++ [y]))) else Pv (i + 1) H3) (hd : ∀ H, Pv xs.length H → Qd H) :
    ∃ W : Nat → Nat → Hp → Prop, (∃ m, W 0 m (upd H1 D (.lst []))) ∧ ∀ i m H, W i m H →
      ((ItzG K k1 k2 a b).stop i H ∧ Qd H) ∨ ((ItzG K k1 k2 a b).go i H ∧ ∃ Nx : Hp → Prop, (∀ H', Nx H' → ∃ m', m' < m ∧ W (i + 1) m' H') ∧ ∀ x H', (ItzG K k1 k2 a b).yld i H x H' → g x (wipe σ vs) H' fun σ2 H2 => wipe σ2 vs = wipe σ vs ∧ tt σ2 H2 fun b H3 =>
        if b = true then te σ2 H3 fun y H4 => ∃ acc, H4 D = some (.lst acc) ∧ acc.length < sizeLine ∧ Nx (upd H4 D (.lst (acc ++ [y]))) else Nx H3) := by
  refine ⟨fun i m H => m = xs.length - i ∧ i ≤ xs.length ∧ Pv i H, ⟨xs.length, by simp, Nat.zero_le _, h0⟩, ?_⟩
  rintro i m H ⟨rfl, hi, p⟩
  obtain ⟨qx, qy⟩ := hq i H hi p
  by_cases hlt : i < xs.length
  · have hx : xs[i]? = some xs[i] := List.getElem?_eq_getElem hlt
    have hlt2 : i < ys.length := by omega
    have hy : ys[i]? = some ys[i] := List.getElem?_eq_getElem hlt2
    refine .inr ⟨⟨xs, ys, _, _, qx, qy, hx, hy⟩, Pv (i + 1), fun H' p' => ⟨xs.length - (i + 1), by omega, rfl, hlt, p'⟩, fun v H' y => ?_⟩
    obtain ⟨T, x', y', rfl, hT, rfl, f1, f2⟩ := y
    exact hs i x' y' T H (f1 xs qx) (f2 ys qy) p hT
  · have e : i = xs.length := by omega
    subst e
    exact .inl ⟨⟨xs, ys, qx, qy, .inl ⟨rfl, by omega⟩⟩, hd H p⟩
/-! ### one sequence, a list or a tuple -/
def Kd.it (K : PySem.W.Frag) (a : Addr) : Kd → It
  | .l => Itl K a
  | .t => Itt K a
def iA (K : PySem.W.Frag) (tl : TE) : TI := fun σ H R => ∃ k : Kd, tl σ H fun x H1 => ∃ a, x = .ref a ∧ (∃ xs, k.sq K H1 a xs) ∧ R (k.it K a) H1
theorem pi_A {X : Cx} {tg l : Expr} {tl : TE} (hl : PE X l tl) : PI X tg l (iA X.K tl) := by
  refine ⟨fun pins s σ H R I h => ?_⟩
  obtain ⟨k, h⟩ := h
  cases k with
  | l => exact (pi_list (tg := tg) hl).run pins s σ H R I h
  | t => exact (pi_tup (tg := tg) hl).run pins s σ H R I h
theorem lc_A {K : PySem.W.Frag} {k : Kd} {a : Addr} {xs : List V} {g : TG} {tt : TT} {te : TE} {vs : List Nat} {σ : L2.St} {H1 : Hp} {D : Addr} {Qd : Hp → Prop} (Pv : Nat → Hp → Prop) (h0 : Pv 0 (upd H1 D (.lst []))) (hl : ∀ i H, i ≤ xs.length → Pv i H → k.sq K H a xs)
    (hs : ∀ i x H, xs[i]? = some x → Pv i H → g x (wipe σ vs) H fun σ2 H2 => wipe σ2 vs = wipe σ vs ∧ tt σ2 H2 fun b H3 =>
      if b = true then te σ2 H3 fun y H4 => ∃ acc, H4 D = some (.lst acc) ∧ acc.length < sizeLine ∧ Pv (i + 1) (upd H4 D (.lst (acc ++ [y]))) else Pv (i + 1) H3) (hd : ∀ H, Pv xs.length H → Qd H) :
    ∃ W : Nat → Nat → Hp → Prop, (∃ m, W 0 m (upd H1 D (.lst []))) ∧ ∀ i m H, W i m H →
      ((k.it K a).stop i H ∧ Qd H) ∨ ((k.it K a).go i H ∧ ∃ Nx : Hp → Prop, (∀ H', Nx H' → ∃ m', m' < m ∧ W (i + 1) m' H') ∧ ∀ x H', (k.it K a).yld i H x H' → g x (wipe σ vs) H' fun σ2 H2 => wipe σ2 vs = wipe σ vs ∧ tt σ2 H2 fun b H3 =>
        if b = true then te σ2 H3 fun y H4 => ∃ acc, H4 D = some (.lst acc) ∧ acc.length < sizeLine ∧ Nx (upd H4 D (.lst (acc ++ [y]))) else Nx H3) := by
  cases k with
  | l => exact lc_list (K := K) (a := a) (xs := xs) Pv h0 hl hs hd
  | t => exact lc_tup (K := K) (a := a) (xs := xs) Pv h0 hl hs hd
/-- data that are a list or a tuple -/
theorem dp_seq {K : PySem.W.Frag} {H : Hp} {v : V} {d : PyData} {ds : List PyData} (h : Dp K H v d) (e : d = .list ds ∨ d = .tuple ds) : ∃ (k : Kd) (a : Addr) (xs : List V), v = .ref a ∧ k.sq K H a xs ∧ DpAll K H xs ds := by
  rcases e with rfl | rfl
  · obtain ⟨a, xs, h1, h2, h3⟩ := dp_list h
    exact ⟨.l, a, xs, h1, h2, h3⟩
  · obtain ⟨a, xs, h1, h2, h3⟩ := dp_tup h
    exact ⟨.t, a, xs, h1, h2, h3⟩
theorem Kd.len {K : PySem.W.Frag} {H : Hp} {a : Addr} {xs : List V} : ∀ {k : Kd}, k.sq K H a xs → SqL K H a xs ∨ SqT K H a xs
  | .l, h => .inl h
  | .t, h => .inr h
end VG

set_option maxRecDepth 100000
/-! Data without lists. -/
namespace VG
open PySem PySem.Spec PyProof.Rows L2
mutual
def noL : PyData → Bool
  | .list _ => false
  | .dict _ => false
  | .tuple ds => noLs ds
  | _ => true
def noLs : List PyData → Bool
  | [] => true
  | d :: ds => noL d && noLs ds
end
theorem sqT_wos {K : PySem.W.Frag} {S : List Addr} {G : Hp} {a : Addr} {xs : List V} (hS : ∀ b ∈ S, ∃ ys, G b = some (.lst ys)) (h : SqT K G a xs) : SqT K (wos S G) a xs := by
  have off : ∀ {o : HO}, G a = some o → (∀ ys, o ≠ .lst ys) → wos S G a = some o := fun {o} e n => by
    rw [wos_out]
    · exact e
    · intro z
      obtain ⟨ys, hy⟩ := hS a z
      rw [e] at hy
      exact n ys (Option.some.inj hy)
  rcases h with (h | ⟨o, h⟩) | h
  · exact .inl (.inl (off h fun _ z => nomatch z))
  · exact .inl (.inr ⟨o, off h fun _ z => nomatch z⟩)
  · exact .inr h
mutual
theorem Dp.wosT {K : PySem.W.Frag} {S : List Addr} {G : Hp} (hS : ∀ b ∈ S, ∃ ys, G b = some (.lst ys)) : ∀ (d : PyData) (v : V), noL d = true → Dp K G v d → Dp K (wos S G) v d
  | .none, _, _, h => by cases h; exact .non
  | .bool b, _, _, h => by cases h; exact .bl b
  | .int i, _, _, h => by cases h; exact .int i
  | .str x, _, _, h => by cases h; exact .str x
  | .list ds, _, n, _ => by cases n
  | .tuple ds, _, n, h => by
    cases h with
    | tup a b => exact .tup (sqT_wos hS a) (DpAll.wosT hS ds _ n b)
  | .dict _, _, n, _ => by cases n
theorem DpAll.wosT {K : PySem.W.Frag} {S : List Addr} {G : Hp} (hS : ∀ b ∈ S, ∃ ys, G b = some (.lst ys)) : ∀ (ds : List PyData) (vs : List V), noLs ds = true → DpAll K G vs ds → DpAll K (wos S G) vs ds
  | [], _, _, h => by cases h; exact .nil
  | d :: ds, _, n, h => by
    obtain ⟨n1, n2⟩ := Bool.and_eq_true_iff.mp (show (noL d && noLs ds) = true from n)
    cases h with
    | cons a b => exact .cons (Dp.wosT hS d _ n1 a) (DpAll.wosT hS ds _ n2 b)
end
theorem noLs_of {ds : List PyData} (h : ∀ d ∈ ds, noL d = true) : noLs ds = true := by
  induction ds with
  | nil => rfl
  | cons d ds ih =>
    show (noL d && noLs ds) = true
    rw [h d List.mem_cons_self, ih fun e he => h e (List.mem_cons_of_mem _ he)]
    rfl
/-- data on new addresses stand without what was there ahead -/
theorem newer_wos {S : List Addr} {H G : Hp} (hS : ∀ b ∈ S, ∃ o, H b = some o) : Same (newer H G) (wos S G) := fun b o e => by
  cases z : H b with
  | some u =>
    rw [newer_none z] at e
    cases e
  | none =>
    rw [newer_at z] at e
    rw [wos_out]
    · exact e
    · intro y
      obtain ⟨u, hu⟩ := hS b y
      rw [z] at hu
      cases hu
/-- a list that grows, of data without lists -/
theorem Acc.put {K : PySem.W.Frag} {S : List Addr} {D : Addr} {H G : Hp} {ds : List PyData} {d : PyData} {y : V} (c : Acc K S D H ds) (e : Same H G) (hS : ∀ b ∈ S, ∃ ys, G b = some (.lst ys)) (n : noL d = true) (hy : Dp K G y d) :
    ∃ acc, G D = some (.lst acc) ∧ acc.length = ds.length ∧ Acc K S D (upd G D (.lst (acc ++ [y]))) (ds ++ [d]) := by
  have c2 := c.on (Exs.of e) fun o h => e D o h
  obtain ⟨acc, h1, _⟩ := c2.ex
  exact c2.more (Dp.wosT (fun b hb => by
    rcases List.mem_cons.mp hb with rfl | hb
    · exact ⟨_, h1⟩
    · exact hS b hb) d y n hy)
/-- a plain call of a def with a star parameter, its reading named (for comprehensions) -/
def tCallR (sp : Sp) (E : XK) (t : TA) : TE := fun σ H Q => t σ H fun vs H1 => sp vs H1 Q E
theorem pe_named {X : Cx} {e : Expr} {sp : Sp} {E : XK} {t : TA} (h : PE X e (fun σ H Q => t σ H fun vs H1 => sp vs H1 Q E)) : PE X e (tCallR sp E t) := h
end VG

set_option maxRecDepth 100000
/-! enumerate of a sequence, a list or a tuple. -/
namespace VG
open PySem PySem.Spec PyProof.Rows L2
set_option maxHeartbeats 1000000 in
theorem meets_enum1 {v : Value} {o : Obj} {H : Heap → Prop} (B : Begins v o H) :
    Meets (Builtin.«enumerate.__new__» ⟨[.type "enumerate", v], []⟩) (fun _ R s => H s.heap ∧
      R (.ok (.ret (.ref (s.heap.push o).objs.size))) { s with heap := (s.heap.push o).push { cls := .type "enumerate", data := .fields #[.none, .bool false, .ref s.heap.objs.size, rawInt 0, .none, .none] } }) :=
  .of_wp fun prog w A R s h => by
    obtain ⟨hp, g, d, tk, os⟩ := s
    obtain ⟨h1, h⟩ := h
    have hsub := sub_enumerate
    have q1 : ∀ {B' : Around} {E : Value → Shared → Prop} {Q : Value → Shared → Prop}, Q (.ref hp.objs.size) ⟨hp.push o, g, d, tk, os⟩ → wpAny (model prog w) B' (pyIter v) Q E ⟨hp, g, d, tk, os⟩ := fun q => B.iter prog w _ _ ⟨hp, g, d, tk, os⟩ _ h1 q
    wp_walk using q1
    refine wpAny_stack_any fun st => wpAny_pure ?_
    split
    · rename_i c _ _ _ _ _
      cases (c == Value.type "enumerate") <;> (wp_walk using q1; exact ⟨_, rfl, h⟩)
    · wp_walk using q1
      exact ⟨_, rfl, h⟩
section
variable {prog : Program} {w : World} {A : Around} {E : Value → Shared → Prop} {s : Shared}
theorem call_enum1 {v : Value} {o : Obj} {H : Heap → Prop} {Q : Value → Shared → Prop} (B : Begins v o H) (h1 : H s.heap)
    (h : ∀ h', IsEnum h' (s.heap.objs.size + 1) s.heap.objs.size 0 .none → h'.get? s.heap.objs.size = some o → (∀ b o, s.heap.get? b = some o → h'.get? b = some o) → Q (.ref (s.heap.objs.size + 1)) { s with heap := h' }) :
    wpAny (model prog w) A (call (.type "enumerate") [v]) Q E s := by
  refine callType_new F.called_enumerate (by decide) (F.typeCall_enumerate_1 _) (F.newCall_enumerate_1 _) (fun obj => F.args_object_init_2 obj _) F.entry_enumerate_new (meets_enum1 B) ⟨h1, ?_⟩
  have hz : (s.heap.push o).objs.size = s.heap.objs.size + 1 := Heap.size_push ..
  have he : IsEnum ((s.heap.push o).push { cls := .type "enumerate", data := .fields #[.none, .bool false, .ref s.heap.objs.size, rawInt 0, .none, .none] }) (s.heap.objs.size + 1) s.heap.objs.size 0 .none := by
    have z := Heap.get?_push_size (s.heap.push o) (o := { cls := .type "enumerate", data := .fields #[.none, .bool false, .ref s.heap.objs.size, rawInt 0, .none, .none] }) rfl
    rw [hz] at z
    exact z
  show _ ∧ _
  rw [hz]
  exact ⟨⟨_, he, rfl⟩, h _ he (Heap.get?_push_of_some _ (Heap.get?_push_size _ B.free)) fun b o x => Heap.get?_push_of_some _ (Heap.get?_push_of_some _ x)⟩
end
/-- the items of a sequence, with their numbers, in new pairs -/
def IteG (K : PySem.W.Frag) (k : Kd) (a : Addr) : It :=
  ⟨fun i H => ∃ (xs : List V) (x : V), k.sq K H a xs ∧ xs[i]? = some x, fun i H v H' => ∃ T x, v = .ref T ∧ H T = none ∧ H' = upd H T (.tup [.int (i : Nat), x]) ∧ ∀ xs, k.sq K H a xs → xs[i]? = some x, fun i H => ∃ xs : List V, k.sq K H a xs ∧ xs.length = i⟩
theorem turn_enumG {P : Program} {w : World} {K : PySem.W.Frag} {elts : List Expr} {kk : Nat} {tpos : Pos} {k : Kd} {a e it : Addr} (n1 : a ≠ it) (n2 : a ≠ e) (n3 : e ≠ it) :
    Turn P w K (.Tuple elts kk tpos) (IteG K k a) [e, it] e (fun i h => (∃ old, IsEnum h e it ((i : Nat) : Int) old) ∧ k.iter h it a i) where
  mem := by simp
  obj := fun i h st b hb => by
    obtain ⟨⟨old, he⟩, hi⟩ := st
    rcases (show b = e ∨ b = it by simpa using hb) with rfl | rfl
    · exact ⟨_, he, fun v q => nomatch q⟩
    · exact Kd.ito hi
  keep := fun i h h' st f => by
    obtain ⟨⟨old, he⟩, hi⟩ := st
    exact ⟨⟨old, f e (by simp) _ he⟩, Kd.itk hi fun o q => f it (by simp) o q⟩
  item := by
    intro X hP hw hK hc i pins s σ H E I hf st hg
    subst hP hw hK
    obtain ⟨⟨old, he⟩, hit⟩ := st
    obtain ⟨xs, x, hq, hx⟩ := hg
    obtain ⟨its, rv, p, _⟩ := Kd.of I hq
    obtain ⟨u, hu, ru⟩ := rv.get hx
    have hel : e < s.heap.objs.size := Heap.lt_size he
    have hil : it < s.heap.objs.size := by
      obtain ⟨_, q, _⟩ := Kd.ito hit
      exact Heap.lt_size q
    have lt : i < its.toArray.size := by
      obtain ⟨q, _⟩ := List.getElem?_eq_some_iff.mp hu
      simpa using q
    refine wpAny_pyNext_enum_itemC (Kd.draws (A := X.A.in1) (I.ok.hd hc) it a n1 its.toArray k) he ⟨hit, p⟩ lt n3 (by simp [n3, n2.symm]) fun v h' tk q1 ho hs hT hsz hk => ?_
    have ev : v = u := by
      have q1 : its.toArray[i]? = some v := q1
      rw [show its.toArray[i]? = some u by simpa using hu] at q1
      exact (Option.some.inj q1).symm
    subst ev
    refine ⟨_, rfl, wpAny_letOwnedTupleGo_enum (s := { s with heap := h', toks := tk + 1 }) ho fun h'' he' sb => ?_⟩
    have hT2 : h''.get? s.heap.objs.size = some { cls := .type "tuple", data := .seq #[.int i tk, v] } := (sb.2 _ (Nat.ne_of_gt hel)).trans hT
    have I1 : Inv X pins σ (upd H s.heap.objs.size (.tup [.int (i : Nat), x])) { s with heap := h'', toks := tk + 1 } :=
      I.turnedNew (ch := [e, it]) (fun b ob hb q => (sb.2 b (fun z => hb (by simp [z]))).trans (hk b ob (fun z => hb (by simp [z])) (fun z => hb (by simp [z])) q)) hf (Nat.le_refl _)
        ⟨by show 2 ≤ sizeLine; decide, [.int i tk, v], .cons ⟨_, rfl⟩ (.cons ru .nil), ⟨_, hT2, rfl, _, rfl⟩⟩
    refine ⟨.ref s.heap.objs.size, _, I1, rfl, ⟨_, x, rfl, I.hok.fresh (Nat.le_refl _), rfl, fun ys hy => by rw [Kd.inj I hy hq]; exact hx⟩, ⟨⟨v, ?_⟩, Kd.itk hs.1 fun o q => (sb.2 it (Ne.symm n3)).trans q⟩, fun b hb => ?_⟩
    · have e1 : ((i + 1 : Nat) : Int) = (i : Int) + 1 := by omega
      rw [e1]
      exact he'
    · have hb' : b < s.heap.objs.size := by
        rcases (show b = e ∨ b = it by simpa using hb) with rfl | rfl
        · exact hel
        · exact hil
      rw [upd_ne (Nat.ne_of_lt hb')]
      exact (hf b hb).1
  done := by
    intro X hP hw hK hc i pins s σ H E I hf st hg
    subst hP hw hK
    obtain ⟨⟨old, he⟩, hit⟩ := st
    obtain ⟨xs, hq, hl⟩ := hg
    obtain ⟨its, rv, p, _⟩ := Kd.of I hq
    have l1 : its.toArray.size = i := by
      have := rv.length
      simp
      omega
    subst l1
    refine wpAny_pyNext_enum_endD (Kd.draws (A := X.A.in1) (I.ok.hd hc) it a n1 its.toArray k) he ⟨hit, p⟩ fun h' eb => ⟨rfl, I.turnedL (t' := s.toks) (ch := [e, it]) (fun b o hb q => eb b o (fun z => hb (by simp [z])) q) hf⟩
  self := fun A i s Q E st h => by
    obtain ⟨⟨_, he⟩, _⟩ := st
    exact wpAny_pyIter_enum he h
def iEnumG (K : PySem.W.Frag) (ta : TA) : TI := fun σ H R => ta σ H fun vs H1 => ∃ a k xs, vs = [.ref a] ∧ Kd.sq K H1 a xs k ∧ R (IteG K k a) H1
theorem pi_enumG {X : Cx} {e : Expr} {ta : TA} {p pos tpos : Pos} {elts : List Expr} {kk : Nat} (hg : Gl X "enumerate") (hm : X.mg "enumerate" = none) (ha : PA X [e] ta) (hs : starEach [e] X.env = [(false, eval e X.env)] := by rfl) :
    PI X (.Tuple elts kk tpos) (.Call (.Name "enumerate" p) [e] [] pos) (iEnumG X.K ta) := by
  refine ⟨fun pins s σ H R I h => ?_⟩
  refine Call_ (ld_blt I hg hm boot_enumerate (PyProof.Rows.callWith_type1 (thn (ha.run pos pins s σ H _ I h) fun us s1 ⟨vs, H1, I1, r1, q1⟩ => ?_) hs rfl))
  obtain ⟨a, k, xs, ex, hq, q⟩ := q1
  subst ex
  cases r1 with
  | cons r rr =>
    cases rr
    cases r
    obtain ⟨its, rv, p', lt⟩ := Kd.of I1 hq
    refine call_enum1 (Kd.begins a its.toArray k) p' fun h' he hit hk => wpAny_pyIter_enum he ?_
    have I2 : Inv X pins σ H1 { s1 with heap := h' } := I1.kept (t' := s1.toks) hk
    refine ⟨s1.heap.objs.size + 1, [s1.heap.objs.size + 1, s1.heap.objs.size], _, _, H1, rfl, I2, turn_enumG (k := k) (a := a) (Nat.ne_of_lt lt) (Nat.ne_of_lt (Nat.lt_succ_of_lt lt)) (Nat.succ_ne_self _), ⟨⟨.none, he⟩, Kd.start hit⟩, fun b hb => ?_, q⟩
    have hle : s1.heap.objs.size ≤ b := by
      rcases (show b = s1.heap.objs.size + 1 ∨ b = s1.heap.objs.size by simpa using hb) with z | z
      · rw [z]
        exact Nat.le_succ _
      · rw [z]
        exact Nat.le_refl _
    exact I1.fpOk hle (I1.hok.fresh hle)
/-- a loop over enumerate of a sequence -/
theorem for_enumG {K : PySem.W.Frag} {k : Kd} {a : Addr} {xs : List V} {g : TG} {tb : TS} {D : Ends} {σ : L2.St} {H : Hp} (Pv : Nat → L2.St → Hp → Prop) (h0 : Pv 0 σ H) (hl : ∀ i σ H, Pv i σ H → k.sq K H a xs)
    (hs : ∀ (i : Nat) (x : V) (T : Addr) (σ : L2.St) (H : Hp), xs[i]? = some x → Pv i σ H → H T = none → g (.ref T) σ (upd H T (.tup [.int (i : Nat), x])) fun σ2 H2 => tb { D with nx := Pv (i + 1), ct := Pv (i + 1), bk := D.nx } σ2 H2) (hd : ∀ σ H, Pv xs.length σ H → D.nx σ H) :
    ∃ W : Nat → Nat → L2.St → Hp → Prop, (∃ m, W 0 m σ H) ∧ ∀ i m σ H, W i m σ H →
      ((IteG K k a).stop i H ∧ D.nx σ H) ∨ ((IteG K k a).go i H ∧ ∃ N : L2.St → Hp → Prop, (∀ σ' H', N σ' H' → ∃ m', m' < m ∧ W (i + 1) m' σ' H') ∧ ∀ v H', (IteG K k a).yld i H v H' → g v σ H' fun σ2 H2 => tb { D with nx := N, ct := N, bk := D.nx } σ2 H2) := by
  refine ⟨fun i m σ H => m = xs.length - i ∧ i ≤ xs.length ∧ Pv i σ H, ⟨_, rfl, Nat.zero_le _, h0⟩, ?_⟩
  rintro i m σ H ⟨rfl, hi, p⟩
  have q := hl i σ H p
  by_cases lt : i < xs.length
  · have hx : xs[i]? = some xs[i] := List.getElem?_eq_getElem lt
    refine .inr ⟨⟨xs, _, q, hx⟩, Pv (i + 1), fun σ' H' p' => ⟨xs.length - (i + 1), by omega, rfl, lt, p'⟩, fun v H' y => ?_⟩
    obtain ⟨T, x', rfl, hT, rfl, f⟩ := y
    exact hs i x' T σ H (f xs q) p hT
  · obtain rfl : i = xs.length := by omega
    exact .inl ⟨⟨xs, q, rfl⟩, hd σ H p⟩
end VG

set_option maxRecDepth 100000
set_option linter.unusedVariables false
namespace Lw
open PySem PySem.Spec PyProof.Rows L2 VG
def whole : PyData → Bool
  | .int _ => true
  | _ => false
theorem whole_int {d : PyData} (h : whole d = true) : ∃ i, d = .int i := by
  cases d <;> first | exact ⟨_, rfl⟩ | cases h
def intOf : PyData → Int
  | .int i => i
  | _ => 0
def isRat : PyData → Bool
  | .tuple [d1, d2] => whole d1 && (whole d2 && (decide (1 ≤ intOf d2) && decide (Nat.gcd (intOf d1).natAbs (intOf d2).natAbs = 1)))
  | _ => false
/-- top and bottom in lowest terms -/
def low (t b : Int) : Int × Int := (t / (Nat.gcd t.natAbs b.natAbs : Int), b / (Nat.gcd t.natAbs b.natAbs : Int))
structure NmW (mg : Str → Option Value) : Prop where
  isi : mg "isinstance" = none
  int : mg "int" = none
  bool : mg "bool" = none
section
variable {P : Program} {w : World} {K : PySem.W.Frag} {mg : Str → Option Value} {base : Heap}
theorem two_of {H : Hp} {xs : List V} {ds : List PyData} (hd : DpAll K H xs ds) (h : xs.length = 2) : ∃ y1 y2 d1 d2, xs = [y1, y2] ∧ ds = [d1, d2] ∧ Dp K H y1 d1 ∧ Dp K H y2 d2 := by
  cases hd with
  | nil => cases h
  | cons h1 t =>
    cases t with
    | nil => cases h
    | cons h2 t =>
      cases t with
      | nil => exact ⟨_, _, _, _, rfl, rfl, h1, h2⟩
      | cons h3 t =>
        simp only [List.length_cons] at h
        omega
def spWhole (K : PySem.W.Frag) : Sp := fun vs H Q _ => ∃ (x : V) (d : PyData), vs = [x] ∧ Dp K H x d ∧ Q (.bl (whole d)) H
theorem scWhole : FnScope ["value"] ["value"] (defScope s__is_whole) := ⟨rfl, rfl, rfl, by decide +kernel, rfl, by decide +kernel, by decide +kernel⟩
theorem ok_whole {f : Addr} {fd : FuncData} (F : Fun K "_is_whole" "_is_whole" s__is_whole f fd) (T : NmW mg) : FnOk P w K mg base CX0 1 f fd ["value"] (spWhole K) := by
  refine F.ok scWhole (fun vs H Q E h => ?_) (fun cdv A outer s H vs Q E hr h => ?_)
  · obtain ⟨x, d, rfl, _⟩ := h
    rfl
  · obtain ⟨x, d, rfl, hx, q⟩ := h
    refine ⟨_, pss_one (ps_ret (pe_and (pe_callB call_isi (by rfl) T.isi (by decide +kernel) (pa_cons (pv 0) (pa_cons (pe_bltn (v := .ty "int") (by rfl) T.int (by decide +kernel) rfl) pa_nil)))
      (pe_one (pe_not (pe_callB call_isi (by rfl) T.isi (by decide +kernel) (pa_cons (pv 0) (pa_cons (pe_bltn (v := .ty "bool") (by rfl) T.bool (by decide +kernel) rfl) pa_nil))))))), ?_⟩
    cases hx with
    | non => exact ⟨_, rfl, _, _, _, _, false, rfl, .ty "int", .base .non, kit_ty (by decide +kernel), _, rfl, iteF q⟩
    | bl b => exact ⟨_, rfl, _, _, _, _, true, rfl, .ty "int", .base (.bl b), kit_ty (by decide +kernel), _, rfl, iteT ⟨_, rfl, _, _, _, _, true, rfl, .ty "bool", .base (.bl b), kit_ty (by decide +kernel), _, rfl, q⟩⟩
    | int i => exact ⟨_, rfl, _, _, _, _, true, rfl, .ty "int", .base (.int i), kit_ty (by decide +kernel), _, rfl, iteT ⟨_, rfl, _, _, _, _, false, rfl, .ty "bool", .base (.int i), kit_ty (by decide +kernel), _, rfl, q⟩⟩
    | str z => exact ⟨_, rfl, _, _, _, _, false, rfl, .ty "int", .base (.str z), kit_ty (by decide +kernel), _, rfl, iteF q⟩
    | lst hs hd => exact ⟨_, rfl, _, _, _, _, false, rfl, .ty "int", tyx_list hs, kit_ty (by decide +kernel), _, rfl, iteF q⟩
    | tup hs hd => exact ⟨_, rfl, _, _, _, _, false, rfl, .ty "int", tyx_tup hs, kit_ty (by decide +kernel), _, rfl, iteF q⟩
def spIsRat (K : PySem.W.Frag) : Sp := fun vs H Q _ => ∃ (x : V) (d : PyData), vs = [x] ∧ Dp K H x d ∧ Q (.bl (isRat d)) H
theorem scIsRat : FnScope ["value", "top", "bottom"] ["value"] (defScope s_is_ratio) := ⟨rfl, rfl, rfl, by decide +kernel, rfl, by decide +kernel, by decide +kernel⟩
structure NmR (mg : Str → Option Value) : Prop where
  w : NmW mg
  tup : mg "tuple" = none
  len : mg "len" = none
  gcd : mg "gcd" = some (.builtin "math.gcd")
theorem ok_isRat {f fW : Addr} {fd fdW : FuncData} (F : Fun K "is_ratio" "is_ratio" s_is_ratio f fd) (FW : Fun K "_is_whole" "_is_whole" s__is_whole fW fdW) (T : NmR mg) (mW : mg "_is_whole" = some (.ref fW)) (bW : Binds K fdW ["value"] []) :
    FnOk P w K mg base CX0 2 f fd ["value"] (spIsRat K) := by
  refine F.ok scIsRat (fun vs H Q E h => ?_) (fun cdv A outer s H vs Q E hr h => ?_)
  · obtain ⟨x, d, rfl, _⟩ := h
    rfl
  · obtain ⟨x, d, rfl, hx, q⟩ := h
    have nd := scIsRat.nd
    have GW := ok_whole (P := P) (w := w) (base := base) FW T.w
    refine ⟨_, pss_cons (ps_if (PW.pt (pw_or (pt_not (pt_val (pe_callB call_isi (by rfl) T.w.isi (by decide +kernel) (pa_cons (pv 0) (pa_cons (pe_bltn (v := .ty "tuple") (by rfl) T.tup (by decide +kernel) rfl) pa_nil)))))
        (pw_or1 (pt_cmpR op_ne (pe_callB call_len_seq (by rfl) T.len PySem.boot_len (pa_cons (pv 0) pa_nil)) pe_int (nomark _))))) (pss_one (ps_ret pe_bl)) pss_nil)
      (pss_cons (ps_asg (pv 0) (pg_tup (by rfl) (pgs_cons (pg_name (i := 1) nd rfl (Or.inl rfl)) (pgs_cons (pg_name (i := 2) nd rfl (Or.inl rfl)) pgs_nil))))
      (pss_one (ps_ret (pe_and (pe_call GW hr (by rfl) mW FW.kp bW .nil pass0 (pa_cons (pv 1) pa_nil)) (pe_and (pe_call GW hr (by rfl) mW FW.kp bW .nil pass0 (pa_cons (pv 2) pa_nil)) (pe_and (pe_cmpR op_ge (pv 2) pe_int (nomark _))
        (pe_one (pe_cmpR op_eq (pe_callBfun cr_gcd (by rfl) T.gcd (pa_cons (pv 1) (pa_cons (pv 2) pa_nil))) pe_int (nomark _))))))))), ?_⟩
    cases hx with
    | non => exact ⟨_, rfl, _, _, _, _, false, rfl, .ty "tuple", .base .non, kit_ty (by decide +kernel), _, rfl, iteT (iteT q)⟩
    | bl b => exact ⟨_, rfl, _, _, _, _, false, rfl, .ty "tuple", .base (.bl b), kit_ty (by decide +kernel), _, rfl, iteT (iteT q)⟩
    | int i => exact ⟨_, rfl, _, _, _, _, false, rfl, .ty "tuple", .base (.int i), kit_ty (by decide +kernel), _, rfl, iteT (iteT q)⟩
    | str z => exact ⟨_, rfl, _, _, _, _, false, rfl, .ty "tuple", .base (.str z), kit_ty (by decide +kernel), _, rfl, iteT (iteT q)⟩
    | lst hs hd => exact ⟨_, rfl, _, _, _, _, false, rfl, .ty "tuple", tyx_list hs, kit_ty (by decide +kernel), _, rfl, iteT (iteT q)⟩
    | @tup a xs ds hs hd =>
      refine ⟨_, rfl, _, _, _, _, true, rfl, .ty "tuple", tyx_tup hs, kit_ty (by decide +kernel), _, rfl, iteF ?_⟩
      refine ⟨_, rfl, a, xs, rfl, .inr hs, rfl, _, rfl, ?_⟩
      have hlen := DpAll.len hd
      refine ite2 (fun h => ?_) (fun h => ?_)
      · have n2 : ds.length ≠ 2 := fun z => by
          rw [hlen, z] at h
          exact absurd h (by decide)
        have e : isRat (.tuple ds) = false := by
          match ds, n2 with
          | [], _ => rfl
          | [_], _ => rfl
          | [_, _], n => exact absurd rfl n
          | _ :: _ :: _ :: _, _ => rfl
        rw [e] at q
        exact q
      · have n2 : xs.length = 2 := by
          by_cases z : xs.length = 2
          · exact z
          · have w : decide (V.int (xs.length : Int) = V.int 2) = false := decide_eq_false fun y => z (by have := V.int.inj y; omega)
            rw [w] at h
            exact absurd rfl h
        obtain ⟨y1, y2, d1, d2, rfl, rfl, h1, h2⟩ := two_of hd n2
        have q : Q (.bl (isRat (.tuple [d1, d2]))) H := q
        clear h
        refine ⟨_, rfl, a, _, rfl, hs, rfl, ?_⟩
        have q : Q (.bl (whole d1 && (whole d2 && (decide (1 ≤ intOf d2) && decide (Nat.gcd (intOf d1).natAbs (intOf d2).natAbs = 1))))) H := q
        refine ⟨y1, _, rfl, y2, _, rfl, rfl, ?_⟩
        refine ⟨_, rfl, y1, d1, rfl, h1, _, rfl, ?_⟩
        cases e1 : whole d1 with
        | false =>
          rw [e1] at q
          exact iteF q
        | true =>
          rw [e1] at q
          refine iteT ⟨_, rfl, y2, d2, rfl, h2, _, rfl, ?_⟩
          cases e2 : whole d2 with
          | false =>
            rw [e2] at q
            exact iteF q
          | true =>
            rw [e2] at q
            obtain ⟨i1, rfl⟩ := whole_int e1
            obtain ⟨i2, rfl⟩ := whole_int e2
            cases h1
            cases h2
            refine iteT ⟨_, rfl, _, _, rfl, rfl, _, rfl, ?_⟩
            have q : Q (.bl (decide (1 ≤ i2) && decide (Nat.gcd i1.natAbs i2.natAbs = 1))) H := q
            cases e3 : decide (1 ≤ i2) with
            | false =>
              rw [e3] at q
              exact iteF q
            | true =>
              rw [e3] at q
              refine iteT ⟨_, rfl, _, rfl, i1, i2, rfl, rfl, ?_⟩
              have q : Q (.bl (decide (Nat.gcd i1.natAbs i2.natAbs = 1))) H := q
              have e : decide (V.int ((Nat.gcd i1.natAbs i2.natAbs : Nat) : Int) = V.int 1) = decide (Nat.gcd i1.natAbs i2.natAbs = 1) := by
                by_cases z : Nat.gcd i1.natAbs i2.natAbs = 1
                · rw [decide_eq_true z]
                  exact decide_eq_true (show V.int ((Nat.gcd i1.natAbs i2.natAbs : Nat) : Int) = V.int 1 by rw [z]; rfl)
                · rw [decide_eq_false z, decide_eq_false fun y => z (by have := V.int.inj y; omega)]
              rw [← e] at q
              exact q
end
end Lw

set_option maxRecDepth 100000
set_option linter.unusedVariables false
namespace Lw
open PySem PySem.Spec PyProof.Rows L2 VG
/-- the ratio that some data are -/
def ratD : PyData → Int × Int
  | .int i => (i, 1)
  | .tuple [a, b] => (intOf a, intOf b)
  | _ => (0, 1)
def okR (d : PyData) : Bool := whole d || isRat d
theorem isRat_form {d : PyData} (h : isRat d = true) : ∃ t b : Int, d = .tuple [.int t, .int b] ∧ 1 ≤ b := by
  cases d with
  | tuple ds =>
    match ds, h with
    | [a, b], h =>
      have h : (whole a && (whole b && (decide (1 ≤ intOf b) && decide (Nat.gcd (intOf a).natAbs (intOf b).natAbs = 1)))) = true := h
      simp only [Bool.and_eq_true, decide_eq_true_eq] at h
      obtain ⟨h1, h2, h3, _⟩ := h
      obtain ⟨t, rfl⟩ := whole_int h1
      obtain ⟨c, rfl⟩ := whole_int h2
      exact ⟨t, c, rfl, h3⟩
    | [], h => cases h
    | [_], h => cases h
    | _ :: _ :: _ :: _, h => cases h
  | _ => cases h
theorem ratD_pos {d : PyData} (h : okR d = true) : 0 < (ratD d).2 := by
  unfold okR at h
  rcases Bool.or_eq_true_iff.mp h with h | h
  · obtain ⟨i, rfl⟩ := whole_int h
    show (0 : Int) < 1
    decide
  · obtain ⟨t, b, rfl, hb⟩ := isRat_form h
    show 0 < b
    omega
theorem low_pos {t b : Int} (h : 0 < b) : 0 < (low t b).2 := by
  have hg : 0 < Nat.gcd t.natAbs b.natAbs := Nat.gcd_pos_of_pos_right _ (by omega)
  have hd : (Nat.gcd t.natAbs b.natAbs : Int) ∣ b := Int.ofNat_dvd_left.mpr (Nat.gcd_dvd_right _ _)
  show 0 < b / (Nat.gcd t.natAbs b.natAbs : Int)
  generalize Nat.gcd t.natAbs b.natAbs = g at hg hd ⊢
  exact Int.ediv_pos_of_pos_of_dvd h (by omega) hd
theorem low_abs {t b : Int} : (low t b).1.natAbs ≤ t.natAbs ∧ (low t b).2.natAbs ≤ b.natAbs := ⟨Int.natAbs_ediv_le_natAbs t _, Int.natAbs_ediv_le_natAbs b _⟩
section
variable {P : Program} {w : World} {K : PySem.W.Frag} {mg : Str → Option Value} {base : Heap}
/-- ratio_of(x), x a ratio or a number -/
def spRat (K : PySem.W.Frag) : Sp := fun vs H Q _ => ∃ (x : V) (d : PyData), vs = [x] ∧ Dp K H x d ∧ okR d = true ∧ ∀ (T : Addr) (H' : Hp), Same H H' → SqT K H' T [.int (ratD d).1, .int (ratD d).2] → Q (.ref T) H'
theorem scRatioOf : FnScope ["value"] ["value"] (defScope s_ratio_of) := ⟨rfl, rfl, rfl, by decide +kernel, rfl, by decide +kernel, by decide +kernel⟩
theorem ok_ratioOf {f fW fR : Addr} {fd fdW fdR : FuncData} (F : Fun K "ratio_of" "ratio_of" s_ratio_of f fd) (FW : Fun K "_is_whole" "_is_whole" s__is_whole fW fdW) (FR : Fun K "is_ratio" "is_ratio" s_is_ratio fR fdR) (T : NmR mg)
    (mW : mg "_is_whole" = some (.ref fW)) (bW : Binds K fdW ["value"] []) (mR : mg "is_ratio" = some (.ref fR)) (bR : Binds K fdR ["value"] []) :
    FnOk P w K mg base CX0 3 f fd ["value"] (spRat K) := by
  refine F.ok scRatioOf (fun vs H Q E h => ?_) (fun cdv A outer s H vs Q E hr h => ?_)
  · obtain ⟨x, d, rfl, _⟩ := h
    rfl
  · obtain ⟨x, d, rfl, hx, ho, q⟩ := h
    refine ⟨_, pss_cons (ps_if (pt_val (pe_call (ok_whole FW T.w) (hr.mono (by omega)) (by rfl) mW FW.kp bW .nil pass0 (pa_cons (pv 0) pa_nil))) (pss_one (ps_ret (pe_tup (pa_cons (pv 0) (pa_cons pe_int pa_nil))))) pss_nil)
      (pss_cons (ps_if (pt_not (pt_val (pe_call (ok_isRat FR FW T mW bW) hr (by rfl) mR FR.kp bR .nil pass0 (pa_cons (pv 0) pa_nil)))) pss_false pss_nil)
      (pss_one (ps_ret (pv 0)))), ?_⟩
    refine ⟨_, rfl, x, d, rfl, hx, _, rfl, ?_⟩
    cases e1 : whole d with
    | true =>
      obtain ⟨i, rfl⟩ := whole_int e1
      cases hx
      exact iteT ⟨_, rfl, small_line (by show 2 ≤ 1000; decide), fun T hT => q T _ (same_upd hT) (SqT.of upd_same)⟩
    | false =>
      have e2 : isRat d = true := by
        unfold okR at ho
        rw [e1] at ho
        exact ho
      obtain ⟨t, b, rfl, _⟩ := isRat_form e2
      refine iteF ⟨_, rfl, x, _, rfl, hx, _, rfl, ?_⟩
      rw [e2]
      refine iteF ⟨_, rfl, ?_⟩
      obtain ⟨a, xs, rfl, hs, hd⟩ := dp_tup hx
      obtain ⟨y, z, rfl, h1, h2⟩ := dpAll2 hd
      cases dp_int h1
      cases dp_int h2
      exact q a H (Same.refl H) hs
end
end Lw

set_option maxRecDepth 100000
namespace Lw
open PySem PySem.Spec PyProof.Rows L2
open TL (numL)
open NumText (AllDigits digitsVal)
/-! ### texts of numbers and of ratios, by their signs -/
/-- the text of some signs -/
abbrev Tx (l : List Nat) : Str := ⟨l.toArray⟩
theorem tx_list (l : List Nat) : (Tx l).cps.toList = l := rfl
theorem tx_len (l : List Nat) : (Tx l).length = l.length := by simp [Str.length]
theorem tx_of (x : Str) : Tx x.cps.toList = x := rfl
theorem tx_app (a b : List Nat) : Tx a ++ Tx b = Tx (a ++ b) := SX.S_cat a b
theorem tx_inj {a b : List Nat} (h : Tx a = Tx b) : a = b := SX.S_inj h
theorem val_snoc (l : List Nat) (c : Nat) : digitsVal (l ++ [c]) = digitsVal l * 10 + (c - 48) := by
  unfold digitsVal
  rw [List.foldl_append]
  rfl
theorem digs_app {a b : List Nat} (h : AllDigits (a ++ b)) : AllDigits a ∧ AllDigits b := ⟨fun c hc => h c (List.mem_append_left _ hc), fun c hc => h c (List.mem_append_right _ hc)⟩
/-- no needless zero ahead -/
def NoZ (l : List Nat) : Prop := l = [48] ∨ l.head? ≠ some 48
theorem num_zero : numL 0 = [48] := TL.numL_lt (by decide)
theorem num_back : ∀ (k : Nat) (l : List Nat), l.length = k → AllDigits l → l ≠ [] → NoZ l → numL (digitsVal l) = l := by
  intro k
  induction k with
  | zero => intro l hl _ hn; exact absurd (List.length_eq_zero_iff.mp hl) hn
  | succ k ih =>
    intro l hl hd hn hz
    obtain ⟨i, c, rfl⟩ : ∃ i c, l = i ++ [c] := ⟨l.dropLast, l.getLast hn, (List.dropLast_concat_getLast hn).symm⟩
    have hl : i.length = k := by simpa using hl
    obtain ⟨hi, hc⟩ := digs_app hd
    have hc := hc c (List.mem_singleton.mpr rfl)
    rw [val_snoc]
    by_cases hi0 : i = []
    · subst hi0
      show numL (0 * 10 + (c - 48)) = [c]
      rw [TL.numL_lt (by omega), show 48 + (0 * 10 + (c - 48)) = c by omega]
    · have hz2 : i.head? ≠ some 48 := by
        rcases hz with z | z
        · exfalso
          have := congrArg List.length z
          rw [List.length_append] at this
          have h1 : i.length ≠ 0 := fun z => hi0 (List.length_eq_zero_iff.mp z)
          have w : i.length + 1 = 1 := this
          omega
        · rw [List.head?_append] at z
          cases i with
          | nil => exact absurd rfl hi0
          | cons d r => exact z
      have e := ih i hl hi hi0 (.inr hz2)
      have h1 : 1 ≤ digitsVal i := by
        by_cases z : digitsVal i = 0
        · rw [z, num_zero] at e
          rw [← e] at hz2
          exact absurd rfl hz2
        · omega
      rw [TL.numL_step (by omega), show (digitsVal i * 10 + (c - 48)) / 10 = digitsVal i by omega, show 48 + (digitsVal i * 10 + (c - 48)) % 10 = c by omega, e]
theorem num_noz (n : Nat) : NoZ (numL n) := by
  induction n using Nat.strongRecOn with
  | _ n ih =>
    by_cases h : n < 10
    · rw [TL.numL_lt h]
      by_cases z : n = 0
      · exact .inl (by rw [z])
      · exact .inr (by show some (48 + n) ≠ some 48; intro y; have := Option.some.inj y; omega)
    · rw [TL.numL_step (by omega)]
      refine .inr ?_
      have hn := TL.numL_ne (n / 10)
      rw [List.head?_append]
      rcases ih (n / 10) (by omega) with z | z
      · have e : n / 10 = 0 := TL.numL_inj (z.trans num_zero.symm)
        omega
      · cases q : numL (n / 10) with
        | nil => exact absurd q hn
        | cons d r =>
          rw [q] at z
          exact z
/-- the text of a ratio -/
def topL (t : Int) : List Nat := (if t < 0 then [45] else []) ++ numL t.natAbs
def textL (t b : Int) : List Nat := topL t ++ (if b = 1 then [] else 47 :: numL b.natAbs)
theorem num_47 (n : Nat) : 47 ∉ numL n := TL.numL_free (.inl (by decide))
theorem num_45 (n : Nat) : 45 ∉ numL n := TL.numL_free (.inl (by decide))
theorem top_47 (t : Int) : 47 ∉ topL t := by
  unfold topL
  intro h
  rcases List.mem_append.mp h with h | h
  · split at h
    · exact absurd (List.mem_singleton.mp h) (by decide)
    · cases h
  · exact num_47 _ h
theorem top_ne (t : Int) : topL t ≠ [] := by
  unfold topL
  intro h
  exact TL.numL_ne _ (List.append_eq_nil_iff.mp h).2
theorem num_head {n : Nat} : (numL n).head? ≠ some 45 := fun h => num_45 n (List.mem_of_head? h)
theorem top_inj {s t : Int} (h : topL s = topL t) : s = t := by
  unfold topL at h
  by_cases hs : s < 0 <;> by_cases ht : t < 0
  · rw [if_pos hs, if_pos ht] at h
    have := TL.numL_inj (List.cons.inj h).2
    omega
  · rw [if_pos hs, if_neg ht] at h
    have z := congrArg List.head? h
    exact absurd z.symm num_head
  · rw [if_neg hs, if_pos ht] at h
    have z := congrArg List.head? h
    exact absurd z num_head
  · rw [if_neg hs, if_neg ht] at h
    have := TL.numL_inj (show numL s.natAbs = numL t.natAbs from h)
    omega
/-- some signs are the text of a ratio -/
structure IsR (t b : Int) (l : List Nat) : Prop where
  pos : 1 ≤ b
  low : Nat.gcd t.natAbs b.natAbs = 1
  txt : l = textL t b
theorem cut_one {a b c d : List Nat} (ha : 47 ∉ a) (hc : 47 ∉ c) (h : a ++ 47 :: b = c ++ 47 :: d) : a = c ∧ b = d := by
  induction a generalizing c with
  | nil =>
    cases c with
    | nil => exact ⟨rfl, (List.cons.inj h).2⟩
    | cons x c => exact absurd (List.mem_cons.mpr (.inl (List.cons.inj h).1)) hc
  | cons x a ih =>
    cases c with
    | nil => exact absurd (List.mem_cons.mpr (.inl (List.cons.inj h).1.symm)) ha
    | cons y c =>
      obtain ⟨e, h⟩ := List.cons.inj h
      obtain ⟨e1, e2⟩ := ih (fun z => ha (List.mem_cons_of_mem _ z)) (fun z => hc (List.mem_cons_of_mem _ z)) h
      exact ⟨by rw [e, e1], e2⟩
theorem IsR.uniq {t b s c : Int} {l : List Nat} (h : IsR t b l) (g : IsR s c l) : t = s ∧ b = c := by
  have e := h.txt.symm.trans g.txt
  unfold textL at e
  have hb := h.pos
  have hc := g.pos
  by_cases h1 : b = 1 <;> by_cases g1 : c = 1
  · rw [if_pos h1, if_pos g1, List.append_nil, List.append_nil] at e
    exact ⟨top_inj e, h1.trans g1.symm⟩
  · rw [if_pos h1, if_neg g1, List.append_nil] at e
    exact absurd (by rw [e]; exact List.mem_append_right _ List.mem_cons_self) (top_47 t)
  · rw [if_neg h1, if_pos g1, List.append_nil] at e
    exact absurd (by rw [← e]; exact List.mem_append_right _ List.mem_cons_self) (top_47 s)
  · rw [if_neg h1, if_neg g1] at e
    obtain ⟨e1, e2⟩ := cut_one (top_47 t) (top_47 s) e
    have := TL.numL_inj e2
    exact ⟨top_inj e1, by omega⟩
/-! ### str of a number -/
theorem str_int (t : Int) : Str.ofString (toString t) = Tx (topL t) := by
  refine TL.ext_tl ?_
  show (Str.ofString (toString t)).cps.toList = topL t
  unfold topL
  cases t with
  | ofNat n =>
    rw [if_neg (by exact Int.not_lt.mpr (Int.natCast_nonneg n))]
    exact TL.tl_num n
  | negSucc n =>
    rw [if_pos (Int.negSucc_lt_zero n)]
    have e : toString (Int.negSucc n) = "-" ++ toString (n + 1) := rfl
    rw [e]
    have e2 := TL.tl_num (n + 1)
    have e3 : (Str.ofString (toString ((n + 1 : Nat) : Int))) = Str.ofString (toString (n + 1)) := rfl
    rw [e3] at e2
    have e4 : TL.tl (Str.ofString ("-" ++ toString (n + 1))) = 45 :: TL.tl (Str.ofString (toString (n + 1))) := by
      show (Str.ofString _).cps.toList = 45 :: (Str.ofString _).cps.toList
      rw [PyProof.Rows.signs_ofString, PyProof.Rows.signs_ofString, String.toList_append]
      rfl
    exact e4.trans (by rw [e2]; rfl)
end Lw

set_option maxRecDepth 100000
set_option linter.unusedVariables false
namespace Lw
open PySem PySem.Spec PyProof.Rows L2 VG
open TL (numL)
open NumText (AllDigits digitsVal)
def ratT (s : Int × Int) : PyData := .tuple [.int s.1, .int s.2]
theorem rat_gcd {s : Int × Int} (h : isRat (ratT s) = true) : 0 < s.2 ∧ Nat.gcd s.1.natAbs s.2.natAbs = 1 := by
  have h : (true && (true && (decide (1 ≤ s.2) && decide (Nat.gcd s.1.natAbs s.2.natAbs = 1)))) = true := h
  simp only [Bool.and_eq_true, decide_eq_true_eq, true_and] at h
  exact ⟨by omega, h.2⟩
/-- lengths of the law -/
structure Ln (s : Int × Int) : Prop where
  rat : isRat (ratT s) = true
  nn : 0 ≤ s.1
  den : s.2 ≤ 60
  top : s.1 ≤ 1000000
theorem Ln.pos {s : Int × Int} (h : Ln s) : 0 < s.2 := (rat_gcd h.rat).1
def lnB (s : Int × Int) : Bool := isRat (ratT s) && (decide (0 ≤ s.1) && (decide (s.2 ≤ 60) && decide (s.1 ≤ 1000000)))
theorem lnB_ok {s : Int × Int} (h : lnB s = true) : Ln s := by
  unfold lnB at h
  simp only [Bool.and_eq_true, decide_eq_true_eq] at h
  exact ⟨h.1, h.2.1, h.2.2.1, h.2.2.2⟩
theorem low_all : (List.range 13).all (fun t => (List.range 5).all fun b => lnB (low (t : Int) (1 + (b : Int)))) = true := by decide +kernel
theorem low_ln {t b : Int} (t0 : 0 ≤ t) (t1 : t < 13) (b0 : 0 ≤ b) (b1 : b < 5) : Ln (low t (1 + b)) := by
  obtain ⟨t, rfl⟩ := Int.eq_ofNat_of_zero_le t0
  obtain ⟨b, rfl⟩ := Int.eq_ofNat_of_zero_le b0
  exact lnB_ok (List.all_eq_true.mp (List.all_eq_true.mp low_all t (List.mem_range.mpr (by omega))) b (List.mem_range.mpr (by omega)))
theorem one_ln {t : Int} (t0 : 0 ≤ t) (t1 : t ≤ 1000000) : Ln (t, 1) := by
  have e : Nat.gcd t.natAbs (1 : Int).natAbs = 1 := Nat.gcd_one_right _
  refine ⟨?_, t0, show (1 : Int) ≤ 60 by decide, t1⟩
  show (true && (true && (decide ((1 : Int) ≤ 1) && decide (Nat.gcd t.natAbs (1 : Int).natAbs = 1)))) = true
  rw [decide_eq_true e]
  rfl
section
variable {P : Program} {w : World} {K : PySem.W.Frag} {mg : Str → Option Value} {base : Heap}
theorem scFig : FnScope ["number", "pieces", "piece"] ["number"] (defScope s__figures) := ⟨rfl, rfl, rfl, by decide +kernel, rfl, by decide +kernel, by decide +kernel⟩
def spFig : Sp := fun vs H Q _ => ∃ n : Nat, vs = [.int n] ∧ n < 10 ^ 60 ∧ ∀ H', Same H H' → Q (.str (Tx (numL n))) H'
theorem log_60 {n : Nat} (h : n < 10 ^ 60) : (n : Int).natAbs.log2 < 1920 := by
  rw [Int.natAbs_natCast]
  have : n < 2 ^ 1920 := Nat.lt_of_lt_of_le h (by decide)
  exact PySem.Flt.log2_lt_of (by decide) this
theorem num_60 {n : Nat} (h : n < 10 ^ 60) : (numL n).length ≤ 60 := TL.numL_len (by decide) h
theorem ok_fig {f : Addr} {fd : FuncData} (F : Fun K "_figures" "_figures" s__figures f fd) (ms : mg "str" = none) : FnOk P w K mg base CX0 1 f fd ["number"] spFig := by
  refine F.ok scFig (fun vs H Q E h => ?_) (fun cdv A outer s H vs Q E hr h => ?_)
  · obtain ⟨n, rfl, _⟩ := h
    rfl
  · obtain ⟨n, rfl, hn, q⟩ := h
    have nd := scFig.nd
    refine ⟨_, pss_cons (ps_set (i := 1) nd rfl (Or.inl rfl) (pe_lst pa_nil))
      (pss_cons (ps_while PassesOwn.never (pt_cmpR op_ge (pv 0) (pe_op op_pow pe_int pe_int) (nomark _)) pss_false)
      (pss_cons (ps_expr (pe_bm PySem.F.plainAttrs_list PySem.F.slot_list_append PySem.F.type_list_append mt_append (pv 1) (pa_cons (pe_callTy call_str_int (by rfl) ms (by decide +kernel) (pa_cons (pv 0) pa_nil)) pa_nil)))
      (pss_one (ps_ret (pe_join pe_str (pe_revL (pv 1))))))), ?_⟩
    refine ⟨by show 0 ≤ sizeLine; decide, fun D hD => ?_⟩
    have sm1 := same_upd (o := .lst []) hD
    dsimp only [gName, tSeq]
    refine while_by (fun σ G => G = upd H D (.lst []) ∧ σ = [some (.int n), some (.ref D), none]) (fun _ _ => 0) ⟨rfl, rfl⟩ ?_ ?_
    · rintro σ G ⟨rfl, rfl⟩
      have hf : decide ((10 : Int) ^ (60 : Int).toNat ≤ (n : Int)) = false := decide_eq_false (by
        have : ((10 : Int) ^ (60 : Int).toNat) = ((10 ^ 60 : Nat) : Int) := by decide
        omega)
      refine ⟨_, rfl, _, _, rfl, rfl, ⟨by decide, by decide, by decide⟩, _, _, rfl, rfl, _, rfl, ?_⟩
      rw [hf]
      refine iteF ?_
      refine ⟨_, rfl, .inl ⟨rfl, _, SqL.of upd_same⟩, _, rfl, _, rfl, log_60 hn, D, [], _, rfl, rfl, upd_same, by show 0 < sizeLine; decide, ?_⟩
      refine ⟨⟨_, rfl⟩, _, rfl, D, _, rfl, SqL.of upd_same, fun p hp => ?_⟩
      refine ⟨_, p, [Str.ofString (toString (n : Int))], rfl, rfl, .inl (SqL.of upd_same), ?_, ?_⟩
      · show (Str.ofString (toString (n : Int))).length + 0 + 1 * 0 ≤ 16777216
        rw [str_int, tx_len]
        have z := num_60 hn
        unfold topL
        rw [if_neg (by omega)]
        show (numL (n : Int).natAbs).length + 0 + 1 * 0 ≤ 16777216
        rw [Int.natAbs_natCast]
        omega
      · have e : Txt.join (Str.ofString "") [Str.ofString (toString (n : Int))] = Tx (numL n) := by
          rw [TL.join_eq]
          show Str.ofString (toString (n : Int)) = _
          rw [str_int]
          unfold topL
          rw [if_neg (by omega), Int.natAbs_natCast]
          rfl
        rw [e]
        refine q _ fun b o h => ?_
        have nD := ne_of_none h hD
        have h1 : upd (upd H D (.lst [])) D (.lst ([] ++ [V.str (Str.ofString (toString (n : Int)))])) b = some o := by rw [upd_ne nD, upd_ne nD]; exact h
        rw [upd_ne (ne_of_none h1 hp)]
        exact h1
    · rintro σ G Q1 Q2 hq ⟨v, e1, i, j, e2, e3, c, i2, j2, e4, e5, b, e6, z⟩
      exact ⟨v, e1, i, j, e2, e3, c, i2, j2, e4, e5, b, e6, hq _ _ z⟩
/-- the text of a ratio -/
theorem scText : FnScope ["value", "top", "bottom", "sign", "text"] ["value"] (defScope s_ratio_text) := ⟨rfl, rfl, rfl, by decide +kernel, rfl, by decide +kernel, by decide +kernel⟩
def spText (K : PySem.W.Frag) : Sp := fun vs H Q _ => ∃ (x : V) (d : PyData), vs = [x] ∧ Dp K H x d ∧ okR d = true ∧ (ratD d).1.natAbs < 10 ^ 60 ∧ (ratD d).2.natAbs < 10 ^ 60 ∧ ∀ H', Same H H' → Q (.str (Tx (textL (ratD d).1 (ratD d).2))) H'
theorem okR_pos {d : PyData} (h : okR d = true) : 1 ≤ (ratD d).2 := by
  unfold okR at h
  cases e : whole d with
  | true =>
    obtain ⟨i, rfl⟩ := whole_int e
    exact Int.le_refl _
  | false =>
    rw [e] at h
    obtain ⟨t, b, rfl, hb⟩ := isRat_form h
    exact hb
theorem fits_line {n : Nat} (h : n ≤ 1000) : n ≤ sizeLine := Nat.le_trans h (by decide)
theorem ok_text {f fT fF : Addr} {fd fdT fdF : FuncData} (F : Fun K "ratio_text" "ratio_text" s_ratio_text f fd) (ma : mg "abs" = none) (GT : FnOk P w K mg base CX0 3 fT fdT ["value"] (spRat K)) (mT : mg "ratio_of" = some (.ref fT)) (kT : PySem.W.keepIn K (.ref fT) = true) (bT : Binds K fdT ["value"] [])
    (GF : FnOk P w K mg base CX0 1 fF fdF ["number"] spFig) (mF : mg "_figures" = some (.ref fF)) (kF : PySem.W.keepIn K (.ref fF) = true) (bF : Binds K fdF ["number"] []) :
    FnOk P w K mg base CX0 4 f fd ["value"] (spText K) := by
  refine F.ok scText (fun vs H Q E h => ?_) (fun cdv A outer s H vs Q E hr h => ?_)
  · obtain ⟨x, d, rfl, _⟩ := h
    rfl
  · obtain ⟨x, d, rfl, hx, ok, b1, b2, q⟩ := h
    have nd := scText.nd
    refine ⟨_, pss_cons (ps_asg (pe_call GT hr (by rfl) mT kT bT .nil pass0 (pa_cons (pv 0) pa_nil)) (pg_tup (by rfl) (pgs_cons (pg_name (i := 1) nd rfl (Or.inl rfl)) (pgs_cons (pg_name (i := 2) nd rfl (Or.inl rfl)) pgs_nil))))
      (C8.pss_cut (ps_set (i := 3) nd rfl (Or.inl rfl) (pe_ifExp (pt_cmpR op_lt (pv 1) pe_int (nomark _)) pe_str pe_str))
      (pss_cons (ps_set (i := 4) nd rfl (Or.inl rfl) (pe_op op_add_str (pv 3) (pe_call GF (hr.mono (by decide)) (by rfl) mF kF bF .nil pass0 (pa_cons (pe_callB call_abs (by rfl) ma (by decide +kernel) (pa_cons (pv 1) pa_nil)) pa_nil))))
      (pss_cons (ps_if (pt_cmpR op_eq (pv 2) pe_int (nomark _)) (pss_one (ps_ret (pv 4))) pss_nil)
      (pss_one (ps_ret (pe_op op_add_str (pe_op op_add_str (pv 4) pe_str) (pe_call GF (hr.mono (by decide)) (by rfl) mF kF bF .nil pass0 (pa_cons (pv 2) pa_nil)))))))), ?_⟩
    refine ⟨_, rfl, x, d, rfl, hx, ok, fun T H1 sm1 hT => ?_⟩
    · have hp := okR_pos ok
      generalize ratD d = s at *
      obtain ⟨t, b⟩ := s
      dsimp only at *
      refine ⟨T, _, rfl, hT, rfl, _, _, rfl, _, _, rfl, rfl, ?_⟩
      refine ⟨fun σ G => σ = [some x, some (.int t), some (.int b), some (.str (Tx (if t < 0 then [45] else []))), none] ∧ G = H1, ?_, ?_⟩
      · refine ⟨_, rfl, _, _, rfl, rfl, _, rfl, ite2 (fun h => ?_) (fun h => ?_)⟩
        · have h : t < 0 := of_decide_eq_true h
          rw [if_pos h]
          exact ⟨rfl, rfl⟩
        · have h : ¬ t < 0 := fun z => h (decide_eq_true z)
          rw [if_neg h]
          exact ⟨rfl, rfl⟩
      · rintro σ G ⟨rfl, rfl⟩
        have ab : (if t < 0 then -t else t) = (t.natAbs : Int) := by
          by_cases z : t < 0
          · rw [if_pos z]; omega
          · rw [if_neg z]; omega
        refine ⟨_, rfl, _, rfl, t, rfl, t.natAbs, by rw [ab]; rfl, b1, fun H2 sm2 => ?_⟩
        have l1 := num_60 b1
        have l2 := num_60 b2
        refine ⟨_, _, rfl, rfl, ?_, ?_⟩
        · refine fits_line ?_
          rw [tx_len, tx_len]
          split <;> simp <;> omega
        rw [tx_app]
        refine ⟨_, rfl, rfl, _, rfl, ite2 (fun h => ?_) (fun h => ?_)⟩
        · have h : b = 1 := V.int.inj (of_decide_eq_true h)
          refine ⟨_, rfl, ?_⟩
          have e : textL t b = (if t < 0 then [45] else []) ++ numL t.natAbs := by
            unfold textL topL
            rw [if_pos h, List.append_nil]
          rw [← e]
          exact q _ (sm1.trans sm2)
        · have h : b ≠ 1 := fun z => h (decide_eq_true (by rw [z]))
          refine ⟨_, rfl, _, _, rfl, rfl, ?_, _, rfl, b.natAbs, by rw [show ((b.natAbs : Nat) : Int) = b by omega]; rfl, b2, fun H3 sm3 => ?_⟩
          · refine fits_line ?_
            rw [tx_len]
            show _ + 1 ≤ 1000
            rw [List.length_append]
            split <;> simp <;> omega
          · have e1 : Tx ((if t < 0 then [45] else []) ++ numL t.natAbs) ++ (Str.ofString "/") = Tx ((if t < 0 then [45] else []) ++ numL t.natAbs ++ [47]) := tx_app _ [47]
            rw [e1]
            refine ⟨_, _, rfl, rfl, ?_, ?_⟩
            · refine fits_line ?_
              rw [tx_len, tx_len, List.length_append, List.length_append]
              split <;> simp <;> omega
            · rw [tx_app]
              have e : textL t b = (if t < 0 then [45] else []) ++ numL t.natAbs ++ [47] ++ numL b.natAbs := by
                unfold textL topL
                rw [if_neg h, List.append_assoc, List.append_assoc, List.append_assoc]
                rfl
              rw [← e]
              exact q _ ((sm1.trans sm2).trans sm3)
theorem top_60 {t : Int} (h : t.natAbs < 10 ^ 60) : (topL t).length ≤ 61 := by
  have l := num_60 h
  unfold topL
  rw [List.length_append]
  split <;> simp <;> omega
theorem text_60 {t b : Int} (h : t.natAbs < 10 ^ 60) (g : b.natAbs < 10 ^ 60) : (textL t b).length ≤ 122 := by
  have l := num_60 g
  have m := top_60 h
  unfold textL
  rw [List.length_append]
  split <;> simp <;> omega
end
end Lw

set_option maxRecDepth 100000
set_option linter.unusedVariables false
namespace Lw
open PySem PySem.Spec PyProof.Rows L2 VG
theorem Src.ne1 {H : Hp} {p q D : Addr} {cells : List Int} (h : Src H p q cells) (e : H D = none) : D ≠ p := fun z => by
  obtain ⟨i, c, sd, n, hp, _⟩ := h.ex
  rw [z, hp] at e
  cases e
theorem Src.ne2 {H : Hp} {p q D : Addr} {cells : List Int} (h : Src H p q cells) (e : H D = none) : D ≠ q := fun z => by
  rw [z, h.cs] at e
  cases e
theorem Src.over {H : Hp} {p q D : Addr} {cells : List Int} {o : HO} (h : Src H p q cells) (n1 : D ≠ p) (n2 : D ≠ q) : Src (upd H D o) p q cells := by
  obtain ⟨i, c, sd, n, hp, h1, h2⟩ := h.ex
  exact ⟨⟨i, c, sd, n, by rw [upd_ne n1.symm]; exact hp, h1, h2⟩, by rw [upd_ne n2.symm]; exact h.cs, h.few, h.ne⟩
theorem Src.exs {H H' : Hp} {p q : Addr} {cells : List Int} (h : Src H p q cells) (b : But p H H') : Exs [p] H H' := Exs.but List.mem_cons_self b
section
variable {P : Program} {w : World} {K : PySem.W.Frag} {mg : Str → Option Value} {base : Heap}
end
end Lw

set_option maxRecDepth 100000
/-! in, not in by an own __contains__; dict comprehensions over lists. -/
namespace VG
open PySem PySem.Spec PyProof.Rows L2
section
variable {X : Cx} {CX : CXT} {C g : Addr} {n : Nat} {sp : Sp} {E : XK}
/-- y in x, x an instance of C, whose __contains__ stands at g -/
def rInO (C : Addr) (neg : Bool) (sp : Sp) (E : XK) : R2 := fun y x H Q => ∃ a dx fs, x = .ref a ∧ H a = some (.ins C dx fs) ∧ sp [x, y] H (fun v H' => ∃ c, v = .bl c ∧ Q (.bl (if neg then !c else c)) H') E
theorem op_inO (hs : PySem.W.findIn X.K (.ref C) "__contains__" = some (some (.ref g))) (hf : PySem.W.isFn X.K (.ref g) = true) (F : FnR X.prog X.w X.K X.mg X.base CX n g sp) (hr : Room n X.A) (hx : Passes CX X E) : OpR X (compareOp .In) (rInO C false sp E) := by
  intro pins s σ H y x u v Q I ry rx h
  obtain ⟨a, dx, fs, rfl, ha, q⟩ := h
  cases (show v = Value.ref a from rx)
  obtain ⟨od, J⟩ := ins_inst I ha
  obtain ⟨m, hF⟩ := I.fr
  refine PySem.W.in_K hF I.ok.mod.kin J hs hf ?_
  refine wpAny_mono (wpAny_call (run_fnR (us := [.ref a, u]) (vs := [.ref a, y]) F hr hx I (.cons rfl (.cons ry .nil)) q)) (fun w s' z => ?_) fun _ _ x => x
  obtain ⟨z', H', I', rz, c, rfl, qz⟩ := z
  cases (show w = Value.bool c from rz)
  exact wpAny_pure ⟨.bl c, H', I', rfl, qz⟩
theorem op_notInO (hs : PySem.W.findIn X.K (.ref C) "__contains__" = some (some (.ref g))) (hf : PySem.W.isFn X.K (.ref g) = true) (F : FnR X.prog X.w X.K X.mg X.base CX n g sp) (hr : Room n X.A) (hx : Passes CX X E) : OpR X (compareOp .NotIn) (rInO C true sp E) := by
  intro pins s σ H y x u v Q I ry rx h
  obtain ⟨a, dx, fs, rfl, ha, q⟩ := h
  cases (show v = Value.ref a from rx)
  obtain ⟨od, J⟩ := ins_inst I ha
  obtain ⟨m, hF⟩ := I.fr
  refine PySem.W.notIn_K hF I.ok.mod.kin J hs hf ?_
  refine wpAny_mono (wpAny_call (run_fnR (us := [.ref a, u]) (vs := [.ref a, y]) F hr hx I (.cons rfl (.cons ry .nil)) q)) (fun w s' z => ?_) fun _ _ x => x
  obtain ⟨z', H', I', rz, c, rfl, qz⟩ := z
  cases (show w = Value.bool c from rz)
  exact wpAny_pure ⟨.bl (!c), H', I', rfl, qz⟩
end
/-- a dict comprehension over a list that stays -/
theorem dc_list {K : PySem.W.Frag} {a : Addr} {xs : List V} {g : TG} {tt : TT} {tk tv : TE} {vs : List Nat} {σ : L2.St} {H1 : Hp} {D : Addr} {Qd : Hp → Prop} (Pv : Nat → Hp → Prop) (h0 : Pv 0 (upd H1 D (.dK []))) (hl : ∀ i H, i ≤ xs.length → Pv i H → SqL K H a xs)
    (hs : ∀ i x H, xs[i]? = some x → Pv i H → g x (wipe σ vs) H fun σ2 H2 => wipe σ2 vs = wipe σ vs ∧ tt σ2 H2 fun b H3 =>
      if b = true then tk σ2 H3 fun y H4 => tv σ2 H4 fun z H5 => ∃ kvs k, y = kV k ∧ H5 D = some (.dK kvs) ∧ kvs.length < sizeLine ∧ Pv (i + 1) (upd H5 D (.dK (putK kvs k z))) else Pv (i + 1) H3) (hd : ∀ H, Pv xs.length H → Qd H) :
    ∃ W : Nat → Nat → Hp → Prop, (∃ m, W 0 m (upd H1 D (.dK []))) ∧ ∀ i m H, W i m H →
      ((Itl K a).stop i H ∧ Qd H) ∨ ((Itl K a).go i H ∧ ∃ Nx : Hp → Prop, (∀ H', Nx H' → ∃ m', m' < m ∧ W (i + 1) m' H') ∧ ∀ x H', (Itl K a).yld i H x H' → g x (wipe σ vs) H' fun σ2 H2 => wipe σ2 vs = wipe σ vs ∧ tt σ2 H2 fun b H3 =>
        if b = true then tk σ2 H3 fun y H4 => tv σ2 H4 fun z H5 => ∃ kvs k, y = kV k ∧ H5 D = some (.dK kvs) ∧ kvs.length < sizeLine ∧ Nx (upd H5 D (.dK (putK kvs k z))) else Nx H3) := by
  refine ⟨fun i m H => m = xs.length - i ∧ i ≤ xs.length ∧ Pv i H, ⟨xs.length, by simp, Nat.zero_le _, h0⟩, ?_⟩
  rintro i m H ⟨rfl, hi, p⟩
  have q := hl i H hi p
  by_cases hlt : i < xs.length
  · refine .inr ⟨⟨xs, xs[i], q, by simp [hlt]⟩, Pv (i + 1), fun H' p' => ⟨xs.length - (i + 1), by omega, rfl, hlt, p'⟩, fun x H' y => ?_⟩
    obtain ⟨e, y⟩ := y
    subst e
    exact hs i x _ (y xs q) p
  · have e : i = xs.length := by omega
    subst e
    exact .inl ⟨⟨xs, q, Nat.le_refl _⟩, hd H p⟩
/-- list(z), z a text: its signs -/
theorem call_listTxt {X : Cx} (hc : X.calm = true) : CallR X (.type "list") (fun xs H Q => ∃ z : Str, xs = [.str z] ∧ z.cps.size ≤ sizeLine ∧ ∀ q, H q = none → Q (.ref q) (upd H q (.lst (z.cps.toList.map fun c => V.str ⟨#[c]⟩)))) := by
  intro pins s σ H xs us Q I r h
  obtain ⟨z, rfl, hz, q⟩ := h
  obtain ⟨u, rfl, rx⟩ := vals1 r
  obtain ⟨t, rfl⟩ := (show ∃ t, u = Value.str z t from rx)
  refine PySem.call_list_str (hn := hz) (I.ok.hd hc) z t fun h' tk acc c' hk e' hi => ?_
  have hl : (z.cps.toList.map fun c => V.str ⟨#[c]⟩).length = acc.toList.length := by rw [List.length_map, Array.length_toList, Array.length_toList, hi.1]
  refine ⟨.ref s.heap.objs.size, upd H s.heap.objs.size (.lst (z.cps.toList.map fun c => V.str ⟨#[c]⟩)), I.laid (t' := tk) hk (Nat.le_refl _)
    (show ObjOk X.prog X.w _ _ _ (.lst _) from ⟨by rw [List.length_map, Array.length_toList]; exact hz, acc.toList, c', vals_of_at hl fun j x u h1 h2 => ?_, by rw [Array.toArray_toList]; exact e'⟩), rfl, q _ (I.hok.fresh (Nat.le_refl _))⟩
  obtain ⟨c, v, e1, e2⟩ := hi.2 j u (by rw [← Array.getElem?_toList]; exact h2)
  rw [List.getElem?_map, Array.getElem?_toList, e1] at h1
  cases h1
  exact ⟨v, e2⟩
end VG

set_option maxRecDepth 100000
set_option linter.unusedVariables false
namespace Lw
open PySem PySem.Spec PyProof.Rows L2 VG
def nameB (z : Str) : Bool := decide ((z.length : Int) ≤ 5) && (Txt.isascii z && (Txt.isalpha z && Txt.islower z))
def word (cs : List Nat) : Str := ⟨cs.toArray⟩
theorem word_list (cs : List Nat) : (word cs).cps.toList = cs := rfl
theorem word_len (cs : List Nat) : (word cs).length = cs.length := by simp [word, Str.length]
theorem app_list (x y : Str) : (x ++ y).cps.toList = x.cps.toList ++ y.cps.toList := Array.toList_append
theorem str_ext {x y : Str} (h : x.cps.toList = y.cps.toList) : x = y := by
  obtain ⟨a⟩ := x
  obtain ⟨b⟩ := y
  exact congrArg Str.mk (Array.toList_inj.mp h)
theorem word_app (a b : List Nat) : word a ++ word b = word (a ++ b) := str_ext (by rw [app_list]; rfl)
theorem word_inj {a b : List Nat} (h : word a = word b) : a = b := by
  have := congrArg (fun z : Str => z.cps.toList) h
  exact this
theorem join_list : ∀ cs : List Nat, (Str.join "" (cs.map fun c => (⟨#[c]⟩ : Str))).cps.toList = cs
  | [] => rfl
  | [_] => rfl
  | c :: d :: r => by
    have ih := join_list (d :: r)
    show ((⟨#[c]⟩ : Str) ++ ("" : Str) ++ Str.join "" ((d :: r).map fun c => (⟨#[c]⟩ : Str))).cps.toList = _
    rw [app_list, app_list, ih]
    rfl
theorem join_signs (cs : List Nat) : Txt.join "" (cs.map fun c => (⟨#[c]⟩ : Str)) = word cs := by
  refine str_ext ?_
  rw [show Txt.join "" (cs.map fun c => (⟨#[c]⟩ : Str)) = Str.join "" (cs.map fun c => (⟨#[c]⟩ : Str)) from StrLaws.glued_eq_join _ _, join_list]
  rfl
theorem all_list (p : Nat → Bool) (cs : List Nat) : (word cs).cps.all p = cs.all p := by simp [word]
theorem any_list (p : Nat → Bool) (cs : List Nat) : (word cs).cps.any p = cs.any p := by simp [word]
def sgn (c : Nat) : V := .str ⟨#[c]⟩
theorem sgns (cs : List Nat) : (cs.map fun c => (⟨#[c]⟩ : Str)).map V.str = cs.map sgn := by rw [List.map_map]; rfl
theorem sgn_lens : ∀ cs : List Nat, ((cs.map fun c => (⟨#[c]⟩ : Str)).map (·.length)).sum = cs.length
  | [] => rfl
  | c :: r => by
    have := sgn_lens r
    rw [List.map_cons, List.map_cons, List.sum_cons, this, List.length_cons]
    show 1 + r.length = r.length + 1
    omega
abbrev abc : Str := "abcdefghijklmnopqrstuvwxyz"
theorem abc_len : abc.cps.toList.length = 26 := by decide +kernel
theorem abc_nd : abc.cps.toList.Nodup := by decide +kernel
theorem abc_ok : ∀ c ∈ abc.cps.toList, c < 128 ∧ PySem.Unicode.isAlpha c = true ∧ PySem.Unicode.isLower c = true ∧ (PySem.Unicode.isUpper c || PySem.Unicode.isTitle c) = false := by decide +kernel
theorem name_abc {cs : List Nat} (h0 : cs ≠ []) (h5 : cs.length ≤ 5) (h : ∀ c ∈ cs, c ∈ abc.cps.toList) : nameB (word cs) = true := by
  have f := fun c hc => abc_ok c (h c hc)
  unfold nameB Txt.isascii Txt.isalpha Txt.islower
  rw [word_len, all_list, all_list, any_list, any_list]
  simp only [Bool.and_eq_true, decide_eq_true_eq, List.all_eq_true, List.any_eq_true, Bool.not_eq_true', List.any_eq_false, Bool.not_eq_true]
  obtain ⟨c, hc⟩ := List.exists_mem_of_ne_nil cs h0
  have : 0 < cs.length := List.length_pos_iff.mpr h0
  exact ⟨by omega, fun c hc => (f c hc).1, ⟨this, fun c hc => (f c hc).2.1⟩, ⟨c, hc, (f c hc).2.2.1⟩, fun c hc => (f c hc).2.2.2⟩
theorem cut_to {a : List Nat} {n : Nat} (h : n ≤ a.length) : cutS (word a) none (some (n : Int)) = word (a.take n) := by
  unfold cutS
  rw [HT.sIx_nat, HT.sIx_none, word_len, Nat.min_eq_left h, word_list, List.drop_zero, Nat.sub_zero]
  rfl
theorem cut_from {a : List Nat} {n : Nat} (h : n ≤ a.length) : cutS (word a) (some (n : Int)) none = word (a.drop n) := by
  unfold cutS
  rw [HT.sIx_nat, HT.sIx_none, word_len, Nat.min_eq_left h, word_list]
  congr 1
  congr 1
  exact List.take_of_length_le (by rw [List.length_drop]; omega)
/-- what a permutation of signs is -/
def unS : V → Nat
  | .str z => z.cps.toList.headD 0
  | _ => 0
theorem perm_signs {ys : List V} {l : List Nat} (h : ys.Perm (l.map sgn)) : ∃ cs : List Nat, cs.Perm l ∧ ys = cs.map sgn := by
  refine ⟨ys.map unS, ?_, ?_⟩
  · have := h.map unS
    rw [List.map_map] at this
    have e : l.map (unS ∘ sgn) = l := by
      induction l with
      | nil => rfl
      | cons c r ih => exact List.map_id'' (fun x => rfl) _
    rw [e] at this
    exact this
  · have all : ∀ y ∈ ys, ∃ c, y = sgn c := fun y hy => by
      obtain ⟨c, _, e⟩ := List.mem_map.mp (h.mem_iff.mp hy)
      exact ⟨c, e.symm⟩
    clear h
    induction ys with
    | nil => rfl
    | cons y ys ih =>
      obtain ⟨c, rfl⟩ := all y List.mem_cons_self
      rw [List.map_cons, List.map_cons, ← ih fun y hy => all y (List.mem_cons_of_mem _ hy)]
      rfl
theorem cutV_to {xs : List V} {n : Nat} (h : n ≤ xs.length) : cutV xs none (some (n : Int)) = xs.take n := by
  unfold cutV
  rw [HT.sIx_nat, HT.sIx_none, Nat.min_eq_left h, List.drop_zero, Nat.sub_zero]
/-- the names about a stem -/
def nameW (st : List Nat) (n : Nat) (c : Nat) : Str := word (st.take n ++ [c] ++ st.drop n)
theorem nameW_ok {st : List Nat} {n c : Nat} (h : st.length ≤ 4) (hs : ∀ c ∈ st, c ∈ abc.cps.toList) (hc : c ∈ abc.cps.toList) : nameB (nameW st n c) = true ∧ (nameW st n c).length ≤ 5 := by
  have l : (st.take n ++ [c] ++ st.drop n).length ≤ 5 := by
    rw [List.length_append, List.length_append, List.length_take, List.length_drop, List.length_singleton]
    omega
  refine ⟨name_abc (by simp) l fun d hd => ?_, by unfold nameW; rw [word_len]; exact l⟩
  rcases List.mem_append.mp hd with hd | hd
  · rcases List.mem_append.mp hd with hd | hd
    · exact hs d (List.mem_of_mem_take hd)
    · rw [List.mem_singleton.mp hd]
      exact hc
  · exact hs d (List.mem_of_mem_drop hd)
theorem nameW_inj {st : List Nat} {n c d : Nat} (h : nameW st n c = nameW st n d) : c = d := by
  have e := word_inj h
  rw [List.append_assoc, List.append_assoc] at e
  have e := List.append_cancel_left e
  exact (List.cons.inj e).1
section
variable {P : Program} {w : World} {K : PySem.W.Frag} {mg : Str → Option Value} {base : Heap}
end
end Lw

/-! Shortest ways: ratios as pairs, and the closing of a table of lengths. -/
namespace VG
/-- the value of a pair (top, bottom) -/
def ratV (s : Int × Int) : Rat := (s.1 : Rat) / (s.2 : Rat)
theorem cast_pos {b : Int} (h : 0 < b) : (0 : Rat) < (b : Rat) := by exact_mod_cast h
theorem ratV_eq {t b u v : Int} (hb : 0 < b) (hv : 0 < v) (h : t * v = u * b) : ratV (t, b) = ratV (u, v) := by
  have h1 := cast_pos hb
  have h2 := cast_pos hv
  have h3 : (t : Rat) * v = u * b := by exact_mod_cast h
  show (t : Rat) / b = u / v
  grind
theorem ratV_add {s t : Int × Int} (hs : 0 < s.2) (ht : 0 < t.2) : ratV (s.1 * t.2 + t.1 * s.2, s.2 * t.2) = ratV s + ratV t := by
  have h1 := cast_pos hs
  have h2 := cast_pos ht
  show (((s.1 * t.2 + t.1 * s.2 : Int)) : Rat) / ((s.2 * t.2 : Int) : Rat) = s.1 / s.2 + t.1 / t.2
  rw [Rat.intCast_add, Rat.intCast_mul, Rat.intCast_mul, Rat.intCast_mul]
  grind
theorem ratV_lt {s t : Int × Int} (hs : 0 < s.2) (ht : 0 < t.2) : ratV s < ratV t ↔ s.1 * t.2 < t.1 * s.2 := by
  have h1 := cast_pos hs
  have h2 := cast_pos ht
  show (s.1 : Rat) / s.2 < t.1 / t.2 ↔ _
  have e1 : (s.1 : Rat) / s.2 < t.1 / t.2 ↔ (s.1 : Rat) * t.2 < t.1 * s.2 := by
    rw [Rat.div_lt_iff h1, show (t.1 : Rat) / t.2 * s.2 = (t.1 * s.2) / t.2 by grind, Rat.lt_div_iff h2]
  rw [e1]
  exact_mod_cast Iff.rfl
/-! ### the closing of a table of lengths -/
def minR (a b : Rat) : Rat := if b < a then b else a
theorem minR_le {a b : Rat} : minR a b ≤ a ∧ minR a b ≤ b := by unfold minR; grind
theorem minR_or {a b : Rat} : minR a b = a ∨ minR a b = b := by unfold minR; grind
def cloR (f : Nat → Nat → Rat) : Nat → Nat → Nat → Rat
  | 0 => f
  | m + 1 => fun i j => minR (cloR f m i j) (cloR f m i m + cloR f m m j)
/-- what a table of lengths is: none below zero, zero from a place to itself -/
structure LenR (n : Nat) (f : Nat → Nat → Rat) : Prop where
  nn : ∀ i j, i < n → j < n → 0 ≤ f i j
  zz : ∀ i, i < n → f i i = 0
theorem clo_len {n : Nat} {f : Nat → Nat → Rat} (h : LenR n f) : ∀ m, m ≤ n → LenR n (cloR f m)
  | 0, _ => h
  | m + 1, hm => by
    have ih := clo_len h m (by omega)
    refine ⟨fun i j hi hj => ?_, fun i hi => ?_⟩
    · have a := ih.nn i j hi hj
      have b := ih.nn i m hi (by omega)
      have c := ih.nn m j (by omega) hj
      show 0 ≤ minR _ _
      unfold minR
      grind
    · have a := ih.zz i hi
      have b := ih.nn i m hi (by omega)
      have c := ih.nn m i (by omega) hi
      show minR _ _ = 0
      unfold minR
      grind
theorem clo_tri {n : Nat} {f : Nat → Nat → Rat} (h : LenR n f) : ∀ m, m ≤ n → ∀ i j k, i < n → j < n → k < m → cloR f m i j ≤ cloR f m i k + cloR f m k j
  | 0, _, _, _, _, _, _, hk => absurd hk (by omega)
  | m + 1, hm, i, j, k, hi, hj, hk => by
    have L := clo_len h m (by omega)
    have ih := clo_tri h m (by omega)
    have hm' : m < n := by omega
    have hkn : k < n := by omega
    have zm := L.zz m hm'
    have n1 := L.nn i m hi hm'
    have n2 := L.nn m j hm' hj
    show minR (cloR f m i j) (cloR f m i m + cloR f m m j) ≤ minR (cloR f m i k) (cloR f m i m + cloR f m m k) + minR (cloR f m k j) (cloR f m k m + cloR f m m j)
    by_cases e : k = m
    · subst e
      unfold minR
      grind
    · have hk' : k < m := by omega
      have t1 := ih i j k hi hj hk'
      have t2 := ih m j k hm' hj hk'
      have t3 := ih i m k hi hm' hk'
      have n3 := L.nn m k hm' hkn
      have n4 := L.nn k m hkn hm'
      unfold minR
      grind
/-- no way by a third place is shorter -/
theorem clo_ways {n : Nat} {f : Nat → Nat → Rat} (h : LenR n f) {i j k : Nat} (hi : i < n) (hj : j < n) (hk : k < n) : cloR f n i j ≤ cloR f n i k + cloR f n k j := clo_tri h n (Nat.le_refl n) i j k hi hj hk
/-- the closing makes no length greater -/
theorem clo_le (f : Nat → Nat → Rat) : ∀ m i j, cloR f m i j ≤ f i j
  | 0, _, _ => Rat.le_refl
  | m + 1, i, j => by
    have ih := clo_le f m i j
    show minR _ _ ≤ _
    unfold minR
    grind
end VG

set_option maxRecDepth 100000
/-! A star in targets: (a, *b) = .., (*a, b, c) = .. of a list or a tuple; either of two readings. -/
namespace VG
open PySem PySem.Spec PyProof.Rows L2 PySem.Calls
section
variable {prog : Program} {w : World} {A : Around} {E : Value → Shared → Prop} {s : Shared}
open PySem.W in
theorem unp_starL {l : Addr} {items : Array Value} {n i : Nat} {Q : List Value → Shared → Prop} (hl : s.heap.IsList l items) (hh : A.handled = none) (hi : i < n) (hn : n ≤ items.size + 1) (hz : items.size ≤ sizeLine)
    (h : ∀ (h' : Heap) (tk : Nat), (∀ b o, s.heap.get? b = some o → h'.get? b = some o) → Q (items.toList.take i ++ [.ref h'.objs.size] ++ (items.toList.drop i).drop (items.size + 1 - n)) { s with heap := h'.push { cls := .type "list", data := .seq ((items.toList.drop i).take (items.size + 1 - n)).toArray }, toks := tk }) : wpAny (model prog w) A (unpackItems (.ref l) n (some i)) Q E s := by
  have hlt : l ≠ s.heap.objs.size := by obtain ⟨o, ho, _⟩ := hl; exact Nat.ne_of_lt (Heap.lt_size ho)
  unfold unpackItems
  refine wpAny_bind ?_
  unfold notIterableAtAll
  refine wpAny_bind (wpAny_specialOf hl.typeIs slot_list_iter.lookup ?_)
  refine wpAny_pure ?_
  simp only [Bool.false_eq_true, if_false]
  refine wpAny_bind (wpAny_holding (wpAny_pyIter_list hl ?_))
  refine wpAny_bind (wpAny_holding (kun_draw hlt i 0 _ _ ⟨_, Heap.get?_push_size _ rfl, rfl, rfl⟩ (hl.push _) (by omega) fun h₁ hit₁ hs₁ => ?_))
  have hl₁ : h₁.IsList l items := (hl.push _).extBut hs₁.extBut hlt
  rw [Nat.zero_add] at hit₁
  have hit₁' := hit₁
  obtain ⟨oi, hoi, _⟩ := hit₁'
  have hl₁' := hl₁
  obtain ⟨ol, hol, _⟩ := hl₁'
  rw [List.drop_zero]
  have hfl : (items.toList.take i).length = i := by rw [List.length_take, Array.length_toList]; omega
  rw [if_neg (show ¬ ((items.toList.take i).length < i) by rw [hfl]; omega)]
  refine wpAny_bind (wpAny_holding (kun_collect (s := { s with heap := h₁ }) (T := "list_iterator") (.inr (.inr (.inl rfl))) (Walks.list (A := A.in1) hh s.heap.objs.size l hlt items) (fun j u st => st.1.typeIs) (k := i) (by omega) ⟨hit₁, hl₁⟩ (Heap.lt_size hoi) (Heap.lt_size hol) (fun h₂ tk hk => ?_) hz))
  have hrl : (items.toList.drop i).length = items.size - i := by rw [List.length_drop, Array.length_toList]
  have hmid : (items.toList.drop i).length - (n - 1 - i) = items.size + 1 - n := by rw [hrl]; omega
  show wpAny _ _ (if (items.toList.drop i).length < n - 1 - i then _ else _) _ _ _
  rw [if_neg (by rw [hrl]; omega)]
  show wpAny _ _ (newList ((items.toList.drop i).take ((items.toList.drop i).length - (n - 1 - i))) >>= fun d => pure (items.toList.take i ++ [d] ++ (items.toList.drop i).drop ((items.toList.drop i).length - (n - 1 - i)))) _ _ _
  rw [hmid]
  have he : ∀ b o, s.heap.get? b = some o → h₂.get? b = some o := fun b o e => by
    have nb : b ≠ s.heap.objs.size := Nat.ne_of_lt (Heap.lt_size e)
    exact hk b o nb (hs₁.extBut b o nb (Heap.get?_push_of_some _ e))
  exact wpAny_bind (wpAny_newList (s := { s with heap := h₂, toks := tk }) (wpAny_pure (h h₂ tk he)) (by rw [List.length_take, hrl]; omega))
open PySem.W in
theorem unp_starT {l : Addr} {items : Array Value} {n i : Nat} {Q : List Value → Shared → Prop} (hl : IsTup s.heap l items) (hh : A.handled = none) (hi : i < n) (hn : n ≤ items.size + 1) (hz : items.size ≤ sizeLine)
    (h : ∀ (h' : Heap) (tk : Nat), (∀ b o, s.heap.get? b = some o → h'.get? b = some o) → Q (items.toList.take i ++ [.ref h'.objs.size] ++ (items.toList.drop i).drop (items.size + 1 - n)) { s with heap := h'.push { cls := .type "list", data := .seq ((items.toList.drop i).take (items.size + 1 - n)).toArray }, toks := tk }) : wpAny (model prog w) A (unpackItems (.ref l) n (some i)) Q E s := by
  have hlt : l ≠ s.heap.objs.size := by obtain ⟨o, ho, _⟩ := hl; exact Nat.ne_of_lt (Heap.lt_size ho)
  unfold unpackItems
  refine wpAny_bind ?_
  unfold notIterableAtAll
  refine wpAny_bind (wpAny_specialOf hl.typeIs slot_tuple_iter.lookup ?_)
  refine wpAny_pure ?_
  simp only [Bool.false_eq_true, if_false]
  refine wpAny_bind (wpAny_holding (iter_tuple hl ?_))
  refine wpAny_bind (wpAny_holding (draw_tuple hlt i 0 _ _ ⟨_, Heap.get?_push_size _ rfl, rfl, rfl⟩ (hl.push _) (by omega) fun h₁ hit₁ hs₁ => ?_))
  have hl₁ : IsTup h₁ l items := (hl.push _).extBut hs₁.extBut hlt
  rw [Nat.zero_add] at hit₁
  have hit₁' := hit₁
  obtain ⟨oi, hoi, _⟩ := hit₁'
  have hl₁' := hl₁
  obtain ⟨ol, hol, _⟩ := hl₁'
  rw [List.drop_zero]
  have hfl : (items.toList.take i).length = i := by rw [List.length_take, Array.length_toList]; omega
  rw [if_neg (show ¬ ((items.toList.take i).length < i) by rw [hfl]; omega)]
  refine wpAny_bind (wpAny_holding (kun_collect (s := { s with heap := h₁ }) (T := "tuple_iterator") (.inr (.inr (.inr rfl))) (Walks.tuple (A := A.in1) hh s.heap.objs.size l hlt items) (fun j u st => st.1.typeIs) (k := i) (by omega) ⟨hit₁, hl₁⟩ (Heap.lt_size hoi) (Heap.lt_size hol) (fun h₂ tk hk => ?_) hz))
  have hrl : (items.toList.drop i).length = items.size - i := by rw [List.length_drop, Array.length_toList]
  have hmid : (items.toList.drop i).length - (n - 1 - i) = items.size + 1 - n := by rw [hrl]; omega
  show wpAny _ _ (if (items.toList.drop i).length < n - 1 - i then _ else _) _ _ _
  rw [if_neg (by rw [hrl]; omega)]
  show wpAny _ _ (newList ((items.toList.drop i).take ((items.toList.drop i).length - (n - 1 - i))) >>= fun d => pure (items.toList.take i ++ [d] ++ (items.toList.drop i).drop ((items.toList.drop i).length - (n - 1 - i)))) _ _ _
  rw [hmid]
  have he : ∀ b o, s.heap.get? b = some o → h₂.get? b = some o := fun b o e => by
    have nb : b ≠ s.heap.objs.size := Nat.ne_of_lt (Heap.lt_size e)
    exact hk b o nb (hs₁.extBut b o nb (Heap.get?_push_of_some _ e))
  exact wpAny_bind (wpAny_newList (s := { s with heap := h₂, toks := tk }) (wpAny_pure (h h₂ tk he)) (by rw [List.length_take, hrl]; omega))
end
/-- targets with a star at place i among n -/
def gStar (K : PySem.W.Frag) (n i : Nat) (t : TGs) : TG := fun v σ H Q => ∃ a xs, v = .ref a ∧ (SqT K H a xs ∨ SqL K H a xs) ∧ i < n ∧ n ≤ xs.length + 1 ∧ ∀ D, H D = none → t (xs.take i ++ [.ref D] ++ (xs.drop i).drop (xs.length + 1 - n)) σ (upd H D (.lst ((xs.drop i).take (xs.length + 1 - n)))) Q
section
variable {X : Cx}
theorem pgs_star {e : Expr} {es : List Expr} {t : TG} {u : TGs} {p : Pos} (h1 : PG X e t) (h2 : PGs X es u)
    (hs : (assignEach (.Starred e p :: es) X.env).map (·.2) = assign e X.env :: (assignEach es X.env).map (·.2) := by rfl) : PGs X (.Starred e p :: es) (gCons t u) := by
  refine ⟨fun pins s σ H vs us Q I r h => ?_⟩
  obtain ⟨v, vr, e1, h⟩ := h
  subst e1
  cases r with
  | cons r rr =>
    rw [hs]
    refine assignInOrder_cons (thn (h1.run pins s σ H _ _ _ I r h) fun _ s1 ⟨σ1, H1, I1, q1⟩ => ?_)
    exact h2.run pins s1 σ1 H1 _ _ Q I1 rr q1
theorem vals_take : ∀ {xs : List V} {us : List Value} (n : Nat), Vals xs us → Vals (xs.take n) (us.take n)
  | _, _, 0, _ => .nil
  | _, _, _ + 1, .nil => .nil
  | _, _, n + 1, .cons r t => .cons r (vals_take n t)
theorem vals_drop : ∀ {xs : List V} {us : List Value} (n : Nat), Vals xs us → Vals (xs.drop n) (us.drop n)
  | _, _, 0, h => h
  | _, _, _ + 1, .nil => .nil
  | _, _, n + 1, .cons _ t => vals_drop n t
theorem pg_star {es : List Expr} {k : Nat} {t : TGs} {n i : Nat} {pos : Pos} (hc : X.calm = true) (h : PGs X es t)
    (hn : (assignEach es X.env).length = n := by rfl) (hst : (assignEach es X.env).findIdx? (·.1) = some i := by rfl) : PG X (.Tuple es k pos) (gStar X.K n i t) := by
  refine ⟨fun pins s σ H v u Q I r hw => ?_⟩
  obtain ⟨a, xs, e1, hq, hi, hl, hw⟩ := hw
  subst e1
  cases r
  have fin : ∀ {its : List Value}, Vals xs its → xs.length ≤ sizeLine → ∀ (h' : Heap) (tk : Nat), (∀ b o, s.heap.get? b = some o → h'.get? b = some o) →
      wpAny (model X.prog X.w) X.A (assignInOrder ((assignEach es X.env).map (·.2)) (its.toArray.toList.take i ++ [.ref h'.objs.size] ++ (its.toArray.toList.drop i).drop (its.toArray.size + 1 - n))) (fun _ s' => ∃ σ' H', Inv X pins σ' H' s' ∧ Q σ' H') X.xe { s with heap := h'.push { cls := .type "list", data := .seq ((its.toArray.toList.drop i).take (its.toArray.size + 1 - n)).toArray }, toks := tk } := by
    intro its rv hz h' tk kk
    have I1 : Inv X pins σ H { s with heap := h', toks := tk } := I.kept (t' := tk) kk
    have hD : H h'.objs.size = none := I1.hok.fresh (Nat.le_refl _)
    have lv := rv.length
    have e2 : its.toArray.size = xs.length := by rw [List.size_toArray, lv]
    rw [e2]
    have rr : Vals ((xs.drop i).take (xs.length + 1 - n)) ((its.toArray.toList.drop i).take (xs.length + 1 - n)) := vals_take _ (vals_drop _ rv)
    have I2 := I1.laid (a := h'.objs.size) (o := .lst ((xs.drop i).take (xs.length + 1 - n))) (t' := tk) (h' := h'.push { cls := .type "list", data := .seq ((its.toArray.toList.drop i).take (xs.length + 1 - n)).toArray }) (fun b u e => Heap.get?_push_of_some _ e) (Nat.le_refl _)
      ⟨by rw [List.length_take, List.length_drop]; omega, _, 0, rr, Heap.get?_push_size _ rfl⟩
    refine h.run pins _ σ _ _ _ Q I2 ?_ (hw _ hD)
    exact ((vals_take i rv).append (.cons (show RelV (V.ref h'.objs.size) (Value.ref h'.objs.size) from rfl) .nil)).append (vals_drop _ (vals_drop i rv))
  rw [assign_Tuple]
  refine wpAny_bind (wpAny_standAt ?_)
  unfold unpack
  rw [hn, hst]
  rcases hq with hq | hq
  · obtain ⟨its, rv, ht, hz⟩ := I.tuple hq
    have lv := rv.length
    have e2 : its.toArray.size = xs.length := by rw [List.size_toArray, lv]
    exact wpAny_bind (wpAny_holding (unp_starT ht (I.ok.hd hc) hi (by rw [e2]; exact hl) (by rw [e2]; exact hz) (fin rv hz)))
  · obtain ⟨its, rv, ht, hz⟩ := I.list hq
    have lv := rv.length
    have e2 : its.toArray.size = xs.length := by rw [List.size_toArray, lv]
    exact wpAny_bind (wpAny_holding (unp_starL ht.isList (I.ok.hd hc) hi (by rw [e2]; exact hl) (by rw [e2]; exact hz) (fin rv hz)))
/-- either of two readings -/
theorem pe_either {e : Expr} {t u : TE} (h : PE X e t) (g : PE X e u) : PE X e (fun σ H Q => t σ H Q ∨ u σ H Q) :=
  ⟨fun pins s σ H Q I q => q.elim (h.run pins s σ H Q I) (g.run pins s σ H Q I)⟩
end
end VG

set_option maxRecDepth 100000
/-! New objects in heaps without some objects; lists of one's own. -/
namespace VG
open PySem PySem.Spec PyProof.Rows L2
theorem Exs.put {S : List Addr} {H G : Hp} {D : Addr} {o : HO} (e : Exs S H G) (h : H D = none) : Exs S H (L2.upd G D o) := fun b u z => by
  by_cases y : b ∈ S
  · rw [wos_in y] at z
    cases z
  · rw [wos_out y] at z ⊢
    have n : b ≠ D := fun x => by
      rw [x, h] at z
      cases z
    rw [upd_ne n]
    exact e.on y z
theorem fresh_out {S : List Addr} {G : Hp} {T : Addr} (hS : ∀ b ∈ S, ∃ o, G b = some o) (hT : G T = none) : T ∉ S := fun z => by
  obtain ⟨o, ho⟩ := hS T z
  rw [hT] at ho
  cases ho
theorem Dp.tupN {K : PySem.W.Frag} {S : List Addr} {G : Hp} {T : Addr} {xs : List V} {ds : List PyData} (hT : G T = none) (hS : T ∉ S) (h : DpAll K (wos S G) xs ds) : Dp K (wos S (upd G T (.tup xs))) (.ref T) (.tuple ds) :=
  .tup (SqT.of (by rw [wos_out hS, upd_same])) (DpAll.same (Exs.of (same_upd hT)) _ _ h)
/-- a list of one's own, not in S -/
def Lp (K : PySem.W.Frag) (S : List Addr) (H : Hp) (v : V) (ds : List PyData) : Prop := ∃ a xs, v = .ref a ∧ a ∉ S ∧ H a = some (.lst xs) ∧ DpAll K (wos S H) xs ds
theorem Lp.dp {K : PySem.W.Frag} {S : List Addr} {H : Hp} {v : V} {ds : List PyData} (h : Lp K S H v ds) : Dp K (wos S H) v (.list ds) := by
  obtain ⟨a, xs, rfl, n, e, d⟩ := h
  exact .lst (SqL.of (by rw [wos_out n]; exact e)) d
theorem Lp.on {K : PySem.W.Frag} {S : List Addr} {H H' : Hp} {v : V} {ds : List PyData} (h : Lp K S H v ds) (e : Exs S H H') : Lp K S H' v ds := by
  obtain ⟨a, xs, rfl, n, z, d⟩ := h
  exact ⟨a, xs, rfl, n, e.on n z, DpAll.same e _ _ d⟩
theorem Lp.new {K : PySem.W.Frag} {S : List Addr} {H : Hp} {L : Addr} {xs : List V} {ds : List PyData} (hL : H L = none) (hS : L ∉ S) (d : DpAll K (wos S H) xs ds) : Lp K S (upd H L (.lst xs)) (.ref L) ds :=
  ⟨L, xs, rfl, hS, upd_same, DpAll.same (Exs.of (same_upd hL)) _ _ d⟩
theorem Acc.lp {K : PySem.W.Frag} {S : List Addr} {D : Addr} {H : Hp} {ds : List PyData} (c : Acc K S D H ds) (h : D ∉ S) : Lp K S H (.ref D) ds := by
  obtain ⟨acc, h1, h2⟩ := c.ex
  exact ⟨D, acc, rfl, h, h1, DpAll.same (wos_less fun b z => List.mem_cons_of_mem _ z) _ _ h2⟩
theorem Acc.len {K : PySem.W.Frag} {S : List Addr} {D : Addr} {H : Hp} {ds : List PyData} (c : Acc K S D H ds) : ∃ acc, H D = some (.lst acc) ∧ acc.length = ds.length := by
  obtain ⟨acc, h1, h2⟩ := c.ex
  exact ⟨acc, h1, DpAll.len h2⟩
theorem dpAll_cons {K : PySem.W.Frag} {H : Hp} {xs : List V} {d : PyData} {ds : List PyData} (h : DpAll K H xs (d :: ds)) : ∃ x r, xs = x :: r ∧ Dp K H x d ∧ DpAll K H r ds := by
  cases h with
  | cons a t => exact ⟨_, _, rfl, a, t⟩
theorem at0 {α : Type} (x : α) (r : List α) : atI (x :: r) 0 = some x := atI_nat (xs := x :: r) (j := 0) rfl
/-- one of the data -/
theorem dpAll_get {K : PySem.W.Frag} {H : Hp} : ∀ {xs : List V} {ds : List PyData} {i : Nat} {d : PyData}, DpAll K H xs ds → ds[i]? = some d → ∃ x, xs[i]? = some x ∧ Dp K H x d
  | _, _, 0, _, .cons h _, e => by
    cases e
    exact ⟨_, rfl, h⟩
  | _, _, i + 1, _, .cons _ t, e => dpAll_get (i := i) t e
/-- a list that grows, of data without lists, while all but S' stays -/
theorem Acc.putX {K : PySem.W.Frag} {S S' : List Addr} {D : Addr} {H G : Hp} {ds : List PyData} {d : PyData} {y : V} (c : Acc K S D H ds) (e : Exs S' H G) (s : ∀ b ∈ S', b ∈ S) (hD : D ∉ S') (hS : ∀ b ∈ S, ∃ ys, G b = some (.lst ys)) (n : noL d = true) (hy : Dp K G y d) :
    ∃ acc, G D = some (.lst acc) ∧ acc.length = ds.length ∧ Acc K S D (upd G D (.lst (acc ++ [y]))) (ds ++ [d]) := by
  have c2 := c.on (Exs.mono (fun b h => List.mem_cons_of_mem _ (s b h)) e) fun o h => e.on hD h
  obtain ⟨acc, h1, _⟩ := c2.ex
  exact c2.more (Dp.wosT (fun b hb => by
    rcases List.mem_cons.mp hb with rfl | hb
    · exact ⟨_, h1⟩
    · exact hS b hb) d y n hy)
/-- and with data that are there without D and S -/
theorem Acc.moreX {K : PySem.W.Frag} {S S' : List Addr} {D : Addr} {H G : Hp} {ds : List PyData} {d : PyData} {y : V} (c : Acc K S D H ds) (e : Exs S' H G) (s : ∀ b ∈ S', b ∈ S) (hD : D ∉ S') (hy : Dp K (wos (D :: S) G) y d) :
    ∃ acc, G D = some (.lst acc) ∧ acc.length = ds.length ∧ Acc K S D (upd G D (.lst (acc ++ [y]))) (ds ++ [d]) :=
  (c.on (Exs.mono (fun b h => List.mem_cons_of_mem _ (s b h)) e) fun o h => e.on hD h).more hy
/-! ### how deep data are (for == of data) -/
def Lay (k : Nat) (d : PyData) : Prop := d.canLay0 = true ∧ d.depth ≤ k
theorem lay_all {k : Nat} : ∀ {ds : List PyData}, (∀ d ∈ ds, Lay k d) → PyData.canLayAll0 ds = true ∧ PyData.depthAll ds ≤ k
  | [], _ => ⟨rfl, Nat.zero_le _⟩
  | d :: ds, h => by
    obtain ⟨a, b⟩ := lay_all (ds := ds) fun e he => h e (List.mem_cons_of_mem _ he)
    obtain ⟨c, e⟩ := h d List.mem_cons_self
    refine ⟨by simp only [PyData.canLayAll0, a, c, Bool.and_self], ?_⟩
    simp only [PyData.depthAll]
    exact Nat.max_le.mpr ⟨e, b⟩
theorem lay_list {k : Nat} {ds : List PyData} (h : ∀ d ∈ ds, Lay k d) : Lay (k + 1) (.list ds) := by
  obtain ⟨a, b⟩ := lay_all h
  refine ⟨by simp only [PyData.canLay0, a], ?_⟩
  simp only [PyData.depth]
  omega
theorem lay_tup {k : Nat} {ds : List PyData} (h : ∀ d ∈ ds, Lay k d) : Lay (k + 1) (.tuple ds) := by
  obtain ⟨a, b⟩ := lay_all h
  refine ⟨by simp only [PyData.canLay0, a], ?_⟩
  simp only [PyData.depth]
  omega
theorem lay_int (i : Int) : Lay 0 (.int i) := ⟨by simp only [PyData.canLay0], by simp [PyData.depth]⟩
theorem lay_bool (i : Bool) : Lay 0 (.bool i) := ⟨by simp only [PyData.canLay0], by simp [PyData.depth]⟩
theorem Lay.up {k m : Nat} {d : PyData} (h : Lay k d) (e : k ≤ m) : Lay m d := ⟨h.1, Nat.le_trans h.2 e⟩
theorem Lay.shaped {k : Nat} {d : PyData} (h : Lay k d) (e : k ≤ 64 := by decide) : SeqAt.shaped d = true := by
  show (PyData.canLay0 d && decide (PyData.depth d ≤ 64)) = true
  rw [h.1, decide_eq_true (Nat.le_trans h.2 e)]
  rfl
theorem eqv_nil : ∀ ds : List PyData, PyData.eqv (.list ds) (.list []) = ds.isEmpty
  | [] => by simp [PyData.eqv, PyData.eqvAll]
  | _ :: _ => by simp [PyData.eqv, PyData.eqvAll]
end VG

set_option maxRecDepth 100000
/-! len and bool of an instance by own methods; data small enough to be shown, told by lists. -/
namespace VG
open PySem PySem.Spec PyProof.Rows L2
section
variable {X : Cx} {CX : CXT} {C g : Addr} {n : Nat} {sp : Sp} {E : XK}
/-- len(x), x an instance of C, whose __len__ stands at g -/
def rLenO (C : Addr) (sp : Sp) (E : XK) : List V → Hp → VK → Prop := fun xs H Q => ∃ a dx fs, xs = [.ref a] ∧ H a = some (.ins C dx fs) ∧ sp xs H (fun v H' => (∃ m : Nat, v = .int m ∧ m < 2 ^ 62) ∧ Q v H') E
theorem call_lenO (hs : PySem.W.findIn X.K (.ref C) "__len__" = some (some (.ref g))) (hf : PySem.W.isFn X.K (.ref g) = true) (F : FnR X.prog X.w X.K X.mg X.base CX n g sp) (hr : Room (n + 1) X.A) (hx : Passes CX X E) : CallR X (.builtin "len") (rLenO C sp E) := by
  intro pins s σ H xs us Q I r h
  obtain ⟨a, dx, fs, rfl, ha, q⟩ := h
  obtain ⟨u, rfl, ru⟩ := vals1 r
  cases (show u = Value.ref a from ru)
  obtain ⟨od, J⟩ := ins_inst I ha
  obtain ⟨m, hF⟩ := I.fr
  have hr1 : Room n X.A.in1 := Room.in1 hr
  refine PySem.W.len_K hF I.ok.mod.kin J hs hf (wpAny_mono (wpAny_call (SlX.run_at (us := [.ref a]) (ws := [.ref a]) F hr1 I.env0.in1 hx I (.cons rfl .nil) q)) (fun v s' z => ?_) fun _ _ x => x)
  obtain ⟨z', H', I', rz, ⟨y, rfl, hy⟩, qz⟩ := z
  obtain ⟨t, e⟩ := (show ∃ t, v = Value.int y t from rz)
  cases e
  exact ⟨⟨by omega, by omega⟩, .int y, H', I'.tok _, ⟨_, rfl⟩, qz⟩
/-- bool(x) of an object: its truth -/
theorem meets_boolO {P : Program} {w : World} {a : Addr} : PySem.MeetsIn P w (Builtin.«bool.__new__» ⟨[.type "bool", .ref a], []⟩) (fun A R s => wpAny (model P w) A.in1 (truthy (.ref a)) (fun b s' => R (.ok (.ret (.bool b))) s') (fun e s' => R (.error e) s') s) := by
  refine PySem.MeetsIn.of_wp fun A R s h => ?_
  obtain ⟨hp, g, d, tk, os⟩ := s
  have f1 := F.conv_sub_bool
  have q : ∀ {Q : Bool → Shared → Prop}, (∀ b s', R (.ok (.ret (.bool b))) s' → Q b s') → wpAny (model P w) A.in1 (truthy (.ref a)) Q (fun e s' => R (.error e) s') ⟨hp, g, d, tk, os⟩ := fun k => wpAny_mono h k fun _ _ x => x
  repeat (any_goals (first | assumption | (with_reducible apply q; intro b s' z) | wp_step))
  all_goals first | exact ⟨_, rfl, z⟩ | skip
/-- bool(x), x an instance of C, whose __bool__ stands at g -/
def rBoolO (C : Addr) (sp : Sp) (E : XK) : List V → Hp → VK → Prop := fun xs H Q => ∃ a dx fs, xs = [.ref a] ∧ H a = some (.ins C dx fs) ∧ sp xs H (fun v H' => (∃ b, v = .bl b) ∧ Q v H') E
theorem call_boolO (hs : PySem.W.findIn X.K (.ref C) "__bool__" = some (some (.ref g))) (hf : PySem.W.isFn X.K (.ref g) = true) (G : FnR X.prog X.w X.K X.mg X.base CX n g sp) (hr : Room (n + 2) X.A) (hx : Passes CX X E) : CallR X (.type "bool") (rBoolO C sp E) := by
  intro pins s σ H xs us Q I r h
  obtain ⟨a, dx, fs, rfl, ha, q⟩ := h
  obtain ⟨u, rfl, ru⟩ := vals1 r
  cases (show u = Value.ref a from ru)
  obtain ⟨od, J⟩ := ins_inst I ha
  obtain ⟨m, hF⟩ := I.fr
  have hr2 : Room n X.A.in1.in1 := Room.in1 (Room.in1 hr)
  refine callType_newIn F.called_bool F.newNe_bool (F.typeCall_bool_1 _) (F.newCall_bool_1 _) (fun obj => F.args_object_init_2 obj _) F.entry_bool_new meets_boolO ?_
  refine PySem.W.truthy_K hF I.ok.mod.kin J hs hf (wpAny_mono (wpAny_call (SlX.run_at (us := [.ref a]) (ws := [.ref a]) G hr2 I.env0.in1.in1 hx I (.cons rfl .nil) q)) (fun v s' z => ?_) fun _ _ x => x)
  obtain ⟨z', H', I', rz, ⟨y, rfl⟩, qz⟩ := z
  cases (show v = Value.bool y from rz)
  exact ⟨rfl, .bl y, H', I', rfl, qz⟩
end
/-- tuple(x), its reading named (for comprehensions) -/
def rTupOf (K : PySem.W.Frag) : List V → Hp → VK → Prop := fun xs H Q => ∃ p ys, xs = [V.ref p] ∧ ((SqL K H p ys ∧ ∀ l, H l = none → Q (.ref l) (upd H l (.tup ys))) ∨ (SqT K H p ys ∧ Q (.ref p) H))
theorem call_tupleK {X : Cx} : CallR X (.type "tuple") (rTupOf X.K) := call_tuple_of
/-! ### small data, told by lists -/
structure Smk (k m : Nat) (d : PyData) : Prop where
  sm : VG.sm d = true
  dp : d.depth ≤ k
  bk : d.bulk ≤ m
theorem smk_int {i : Int} (h : i.natAbs < 10 ^ 90) : Smk 0 0 (.int i) := ⟨by simp only [VG.sm]; exact decide_eq_true h, by simp [PyData.depth], by simp [PyData.bulk]⟩
theorem smk_bool (b : Bool) : Smk 0 0 (.bool b) := ⟨rfl, by simp [PyData.depth], by simp [PyData.bulk]⟩
theorem smk_str {z : Str} {m : Nat} (h : PyData.strOk z = true) (hm : z.cps.size ≤ m) : Smk 0 m (.str z) := ⟨by simp only [VG.sm]; exact h, by simp [PyData.depth], by simp only [PyData.bulk]; exact hm⟩
theorem Smk.up {k m k' m' : Nat} {d : PyData} (h : Smk k m d) (e : k ≤ k') (f : m ≤ m') : Smk k' m' d := ⟨h.sm, Nat.le_trans h.dp e, Nat.le_trans h.bk f⟩
theorem smk_all {k m : Nat} : ∀ {ds : List PyData}, (∀ d ∈ ds, Smk k m d) → smAll ds = true ∧ PyData.depthAll ds ≤ k ∧ PyData.bulkAll ds ≤ ds.length * (m + 1)
  | [], _ => ⟨rfl, Nat.zero_le _, Nat.zero_le _⟩
  | d :: ds, h => by
    obtain ⟨a, b, c⟩ := smk_all (ds := ds) fun e he => h e (List.mem_cons_of_mem _ he)
    have z := h d List.mem_cons_self
    refine ⟨?_, ?_, ?_⟩
    · simp only [VG.smAll, z.sm, a, Bool.and_self]
    · simp only [PyData.depthAll]
      exact Nat.max_le.mpr ⟨z.dp, b⟩
    · simp only [PyData.bulkAll, List.length_cons, Nat.succ_mul]
      have := z.bk
      omega
theorem smk_list {k m n : Nat} {ds : List PyData} (h : ∀ d ∈ ds, Smk k m d) (hn : ds.length ≤ n) : Smk (k + 1) (n * (m + 1)) (.list ds) := by
  obtain ⟨a, b, c⟩ := smk_all h
  refine ⟨by simp only [VG.sm]; exact a, by simp only [PyData.depth]; omega, ?_⟩
  simp only [PyData.bulk]
  exact Nat.le_trans c (Nat.mul_le_mul_right _ hn)
theorem smk_tup {k m n : Nat} {ds : List PyData} (h : ∀ d ∈ ds, Smk k m d) (hn : ds.length ≤ n) : Smk (k + 1) (n * (m + 1)) (.tuple ds) := by
  obtain ⟨a, b, c⟩ := smk_all h
  refine ⟨by simp only [VG.sm]; exact a, by simp only [PyData.depth]; omega, ?_⟩
  simp only [PyData.bulk]
  exact Nat.le_trans c (Nat.mul_le_mul_right _ hn)
theorem Smk.Sm {k m : Nat} {d : PyData} (h : Smk k m d) (e : k ≤ 40 := by decide) (f : m ≤ 100000 := by decide) : VG.Sm d := ⟨h.sm, Nat.le_trans h.dp e, Nat.le_trans h.bk f⟩
/-! ### == of data -/
mutual
def noDict : PyData → Bool
  | .dict _ => false
  | .list ds => noDicts ds
  | .tuple ds => noDicts ds
  | _ => true
def noDicts : List PyData → Bool
  | [] => true
  | d :: ds => noDict d && noDicts ds
end
theorem noDicts_of {ds : List PyData} (h : ∀ d ∈ ds, noDict d = true) : noDicts ds = true := by
  induction ds with
  | nil => rfl
  | cons d ds ih =>
    show (noDict d && noDicts ds) = true
    rw [h d List.mem_cons_self, ih fun e he => h e (List.mem_cons_of_mem _ he)]
    rfl
mutual
theorem eqv_refl : ∀ d : PyData, noDict d = true → PyData.eqv d d = true
  | .none, _ => by simp only [PyData.eqv]
  | .bool _, _ => by simp only [PyData.eqv, beq_self_eq_true]
  | .int _, _ => by simp only [PyData.eqv, beq_self_eq_true]
  | .str _, _ => by simp only [PyData.eqv, beq_self_eq_true]
  | .list xs, h => by simp only [PyData.eqv]; exact eqv_reflAll xs h
  | .tuple xs, h => by simp only [PyData.eqv]; exact eqv_reflAll xs h
  | .dict _, h => by cases h
theorem eqv_reflAll : ∀ ds : List PyData, noDicts ds = true → PyData.eqvAll ds ds = true
  | [], _ => by simp only [PyData.eqvAll]
  | d :: ds, h => by
    obtain ⟨a, b⟩ := Bool.and_eq_true_iff.mp (show (noDict d && noDicts ds) = true from h)
    simp only [PyData.eqvAll, eqv_refl d a, eqv_reflAll ds b, Bool.and_self]
end
theorem eqv_len : ∀ {xs ys : List PyData}, xs.length ≠ ys.length → PyData.eqvAll xs ys = false
  | [], [], h => absurd rfl h
  | [], _ :: _, _ => by simp only [PyData.eqvAll]
  | _ :: _, [], _ => by simp only [PyData.eqvAll]
  | x :: xs, y :: ys, h => by
    have z := eqv_len (xs := xs) (ys := ys) fun e => h (by rw [List.length_cons, List.length_cons, e])
    simp only [PyData.eqvAll, z, Bool.and_false]
theorem eqv_lens {xs ys : List PyData} (h : xs.length ≠ ys.length) : PyData.eqv (.list xs) (.list ys) = false := by
  simp only [PyData.eqv]
  exact eqv_len h
end VG

set_option maxRecDepth 100000
set_option linter.unusedVariables false
namespace Lw
open PySem PySem.Spec PyProof.Rows L2 VG
section
variable {P : Program} {w : World} {K : PySem.W.Frag} {mg : Str → Option Value} {base : Heap}
theorem Src.lst {H : Hp} {p q : Addr} {cells : List Int} (h : Src H p q cells) : ∃ ys, H p = some (.lst ys) := let ⟨_, _, _, _, e, _⟩ := h.ex; ⟨_, e⟩
theorem Src.out {H : Hp} {p q D : Addr} {cells : List Int} (h : Src H p q cells) (hD : H D = none) : D ≠ p ∧ D ≠ q := ⟨h.ne1 hD, h.ne2 hD⟩
theorem Src.put {H : Hp} {p q D : Addr} {cells : List Int} {o : HO} (h : Src H p q cells) (n : D ≠ p ∧ D ≠ q) : Src (upd H D o) p q cells := h.over n.1 n.2
theorem But.exs {p : Addr} {H H' : Hp} (b : But p H H') : Exs [p] H H' := Exs.but List.mem_cons_self b
theorem Src.lsts {H : Hp} {p q : Addr} {cells : List Int} (h : Src H p q cells) : ∀ b ∈ [p], ∃ ys, H b = some (.lst ys) := fun b hb => by
  rw [List.mem_singleton.mp hb]
  exact h.lst
theorem rat_at {H : Hp} {x : V} {s : Int × Int} (h : Dp K H x (ratT s)) : ∃ T, x = .ref T ∧ SqT K H T [.int s.1, .int s.2] := by
  obtain ⟨a, xs, rfl, hs, hd⟩ := dp_tup h
  obtain ⟨y, z, rfl, h1, h2⟩ := dpAll2 hd
  cases dp_int h1
  cases dp_int h2
  exact ⟨a, rfl, hs⟩
theorem ratP_dp {H : Hp} {T : Addr} {s : Int × Int} (h : SqT K H T [.int s.1, .int s.2]) : Dp K H (.ref T) (.tuple [.int s.1, .int s.2]) := .tup h (.cons (.int _) (.cons (.int _) .nil))
theorem okR_of {d : PyData} (h : isRat d = true) : okR d = true := by
  unfold okR
  rw [h, Bool.or_true]
/-- foot or cart -/
def layB (z : Str) : Prop := z = "foot" ∨ z = "cart"
end
end Lw

set_option maxRecDepth 100000
set_option linter.unusedVariables false
namespace Lw
open PySem PySem.Spec PyProof.Rows L2 VG
open TL (numL)
/-! ### words of steps -/
/-- a short word -/
def wdB (z : Str) : Prop := z.length ≤ 12 ∧ PyData.strOk z = true
/-- a name, a layer or a number that is not below zero -/
def Atom (d : PyData) : Prop := (∃ z, d = .str z ∧ wdB z) ∨ (okR d = true ∧ 0 ≤ (ratD d).1 ∧ (ratD d).1 ≤ 1000000 ∧ (ratD d).2 ≤ 60)
def txtD : PyData → Str
  | .str z => z
  | d => Tx (textL (ratD d).1 (ratD d).2)
theorem txt_num {d : PyData} (h : okR d = true) : txtD d = Tx (textL (ratD d).1 (ratD d).2) := by
  cases d <;> first | rfl | cases h
/-- the words of steps, one after another -/
def sepJ (wss : List (List Str)) : List Str := wss.foldl (fun a w => a ++ (if a = [] then [] else [(";" : Str)]) ++ w) []
theorem sepJ_snoc (wss : List (List Str)) (w : List Str) : sepJ (wss ++ [w]) = sepJ wss ++ (if sepJ wss = [] then [] else [(";" : Str)]) ++ w := by
  unfold sepJ
  rw [List.foldl_append]
  rfl
def LW (m : Nat) (R : PyData → List Str → Prop) (ds : List PyData) (ws : List Str) : Prop := ds.length ≤ m ∧ ∃ wss, Paired R ds wss ∧ ws = sepJ wss
def Leaf (d : PyData) (ws : List Str) : Prop := ∃ (u : Str) (items : List PyData), d = .tuple (.str u :: items) ∧ ws = u :: items.map txtD ∧ wdB u ∧ u ≠ "if" ∧ u ≠ "repeat" ∧ items.length ≤ 4 ∧ ∀ e ∈ items, Atom e
def IfW (R : List PyData → List Str → Prop) (d : PyData) (ws : List Str) : Prop := ∃ (as d1 d2 : List PyData) (w1 w2 : List Str), as.length = 4 ∧ d = .tuple (.str "if" :: (as ++ [.tuple d1, .tuple d2])) ∧ (∀ e ∈ as, Atom e) ∧ R d1 w1 ∧ R d2 w2 ∧
  ws = ("if" : Str) :: (as.map txtD ++ (("(" : Str) :: (w1 ++ ((")" : Str) :: ("else" : Str) :: ("(" : Str) :: (w2 ++ [(")" : Str)])))))
def RepW (R : List PyData → List Str → Prop) (d : PyData) (ws : List Str) : Prop := ∃ (k : Int) (d1 : List PyData) (w1 : List Str), d = .tuple [.str "repeat", .int k, .tuple d1] ∧ 0 ≤ k ∧ k ≤ 9 ∧ R d1 w1 ∧
  ws = ("repeat" : Str) :: txtD (.int k) :: ("(" : Str) :: (w1 ++ [(")" : Str)])
def StW (R : List PyData → List Str → Prop) (d : PyData) (ws : List Str) : Prop := Leaf d ws ∨ IfW R d ws ∨ RepW R d ws
/-- a step, with at most n steps about one another in it -/
def SW : Nat → PyData → List Str → Prop
  | 0 => StW fun _ _ => False
  | n + 1 => StW (LW 12 (SW n))
theorem atom_int {k : Int} (h0 : 0 ≤ k) (h1 : k ≤ 1000000) : Atom (.int k) := .inr ⟨rfl, h0, h1, show (1 : Int) ≤ 60 by decide⟩
theorem atom_str {z : Str} (h : wdB z) : Atom (.str z) := .inl ⟨z, rfl, h⟩
theorem atom_len {d : PyData} (h : Atom d) (n : ∀ z, d ≠ .str z) : okR d = true ∧ (ratD d).1.natAbs < 10 ^ 60 ∧ (ratD d).2.natAbs < 10 ^ 60 := by
  rcases h with ⟨z, e, _⟩ | ⟨h1, h2, h3, h4⟩
  · exact absurd e (n z)
  · have hp := okR_pos h1
    have q : (1000001 : Nat) ≤ 10 ^ 60 := by decide
    exact ⟨h1, Nat.lt_of_lt_of_le (by omega) q, Nat.lt_of_lt_of_le (by omega) q⟩
/-! how long words are -/
theorem numL_dig (n : Nat) : ∀ c ∈ numL n, c < 128 := fun c h => by
  have := TL.numL_digits n c h
  omega
theorem topL_ok {t : Int} (h0 : 0 ≤ t) (h1 : t ≤ 1000000) : (topL t).length ≤ 7 ∧ ∀ c ∈ topL t, c < 128 := by
  unfold topL
  rw [if_neg (by omega)]
  exact ⟨TL.numL_len (k := 7) (by decide) (by omega), numL_dig _⟩
theorem txt_wd {d : PyData} (h : Atom d) : wdB (txtD d) := by
  rcases h with ⟨z, rfl, h⟩ | ⟨h1, h2, h3, h4⟩
  · exact h
  · rw [txt_num h1]
    have hp := okR_pos h1
    obtain ⟨l1, c1⟩ := topL_ok h2 h3
    have l2 : (numL (ratD d).2.natAbs).length ≤ 2 := TL.numL_len (k := 2) (by decide) (by omega)
    unfold textL
    refine ⟨?_, ?_⟩
    · rw [tx_len, List.length_append]
      split
      · simp; omega
      · rw [List.length_cons]; omega
    · unfold PyData.strOk
      rw [Array.all_eq_true_iff_forall_mem]
      intro c hc
      have hc : c ∈ topL (ratD d).1 ++ (if (ratD d).2 = 1 then [] else 47 :: numL (ratD d).2.natAbs) := Array.mem_toList_iff.mpr hc
      have : c < 128 := by
        rcases List.mem_append.mp hc with hc | hc
        · exact c1 c hc
        · by_cases z : (ratD d).2 = 1
          · rw [if_pos z] at hc
            cases hc
          · rw [if_neg z] at hc
            rcases List.mem_cons.mp hc with rfl | hc
            · decide
            · exact numL_dig _ _ hc
      exact decide_eq_true (by omega)
abbrev Sz (c : Nat) (ws : List Str) : Prop := ws.length ≤ c ∧ ∀ w ∈ ws, wdB w
theorem wd_of {z : Str} (h : z.length ≤ 12 ∧ PyData.strOk z = true := by decide +kernel) : wdB z := h
theorem Sz.map {as : List PyData} (h : ∀ e ∈ as, Atom e) : ∀ w ∈ as.map txtD, wdB w := fun w hw => by
  obtain ⟨e, he, rfl⟩ := List.mem_map.mp hw
  exact txt_wd (h e he)
theorem st_size {R : List PyData → List Str → Prop} {c : Nat} (hR : ∀ ds ws, R ds ws → Sz c ws) {d : PyData} {ws : List Str} (h : StW R d ws) : Sz (10 + 2 * c) ws := by
  rcases h with ⟨u, items, _, rfl, hu, _, _, hl, ha⟩ | ⟨as, d1, d2, w1, w2, hl, _, ha, r1, r2, rfl⟩ | ⟨k, d1, w1, _, k0, k9, r1, rfl⟩
  · refine ⟨by simp; omega, fun w hw => ?_⟩
    rcases List.mem_cons.mp hw with rfl | hw
    · exact hu
    · exact Sz.map ha w hw
  · obtain ⟨l1, a1⟩ := hR _ _ r1
    obtain ⟨l2, a2⟩ := hR _ _ r2
    refine ⟨by simp [hl]; omega, fun w hw => ?_⟩
    simp only [List.mem_cons, List.mem_append, List.not_mem_nil, or_false] at hw
    rcases hw with rfl | hw | rfl | hw | rfl | rfl | rfl | hw | rfl
    · exact wd_of
    · exact Sz.map ha w hw
    · exact wd_of
    · exact a1 w hw
    · exact wd_of
    · exact wd_of
    · exact wd_of
    · exact a2 w hw
    · exact wd_of
  · obtain ⟨l1, a1⟩ := hR _ _ r1
    refine ⟨by simp; omega, fun w hw => ?_⟩
    simp only [List.mem_cons, List.mem_append, List.not_mem_nil, or_false] at hw
    rcases hw with rfl | rfl | rfl | hw | rfl
    · exact wd_of
    · exact txt_wd (atom_int k0 (by omega))
    · exact wd_of
    · exact a1 w hw
    · exact wd_of
theorem sep_size {c : Nat} {wss : List (List Str)} (h : ∀ ws ∈ wss, Sz c ws) : Sz (wss.length * (c + 1)) (sepJ wss) := by
  have : ∀ n, n ≤ wss.length → Sz (n * (c + 1)) (sepJ (wss.take n)) := fun n => by
    induction n with
    | zero => exact fun _ => ⟨by simp [sepJ], by simp [sepJ]⟩
    | succ n ih =>
      intro hn
      obtain ⟨l, a⟩ := ih (by omega)
      have e : wss.take (n + 1) = wss.take n ++ [wss[n]] := by
        rw [List.take_add_one, List.getElem?_eq_getElem (by omega)]
        rfl
      obtain ⟨l2, a2⟩ := h wss[n] (List.getElem_mem _)
      rw [e, sepJ_snoc]
      refine ⟨?_, fun w hw => ?_⟩
      · have : (if sepJ (wss.take n) = [] then [] else [(";" : Str)]).length ≤ 1 := by split <;> simp
        rw [List.length_append, List.length_append, Nat.add_mul]
        omega
      · rcases List.mem_append.mp hw with hw | hw
        · rcases List.mem_append.mp hw with hw | hw
          · exact a w hw
          · split at hw
            · cases hw
            · rw [List.mem_singleton.mp hw]
              exact wd_of
        · exact a2 w hw
  have e := this wss.length (Nat.le_refl _)
  rw [List.take_length] at e
  exact e
theorem paired_mem2 {α β : Type} {R : α → β → Prop} : ∀ {xs : List α} {ys : List β} {y : β}, Paired R xs ys → y ∈ ys → ∃ x ∈ xs, R x y
  | _, _, _, .nil, h => by cases h
  | _, _, _, .cons r t, h => by
    rcases List.mem_cons.mp h with rfl | h
    · exact ⟨_, List.mem_cons_self, r⟩
    · obtain ⟨x, hx, hr⟩ := paired_mem2 t h
      exact ⟨x, List.mem_cons_of_mem _ hx, hr⟩
theorem paired_len2 {α β : Type} {R : α → β → Prop} : ∀ {xs : List α} {ys : List β}, Paired R xs ys → xs.length = ys.length
  | _, _, .nil => rfl
  | _, _, .cons _ t => congrArg (· + 1) (paired_len2 t)
theorem lw_size {R : PyData → List Str → Prop} {m c : Nat} (hR : ∀ d ws, R d ws → Sz c ws) {ds : List PyData} {ws : List Str} (h : LW m R ds ws) : Sz (m * (c + 1)) ws := by
  obtain ⟨l, wss, pa, rfl⟩ := h
  obtain ⟨l2, a⟩ := sep_size (c := c) (wss := wss) fun ws hw => by
    obtain ⟨d, _, hr⟩ := paired_mem2 pa hw
    exact hR d ws hr
  have e := paired_len2 pa
  exact ⟨Nat.le_trans l2 (Nat.mul_le_mul_right _ (by omega)), a⟩
def szN : Nat → Nat
  | 0 => 10
  | n + 1 => 10 + 2 * (12 * (szN n + 1))
theorem sw_size : ∀ (n : Nat) {d : PyData} {ws : List Str}, SW n d ws → Sz (szN n) ws
  | 0, d, ws, h => st_size (c := 0) (fun _ _ z => z.elim) h
  | n + 1, d, ws, h => st_size (fun ds ws z => lw_size (fun d ws z => sw_size n z) z) h
theorem sw_mono {R R' : List PyData → List Str → Prop} (h : ∀ ds ws, R ds ws → R' ds ws) {d : PyData} {ws : List Str} : StW R d ws → StW R' d ws := by
  rintro (z | ⟨as, d1, d2, w1, w2, hl, e, ha, r1, r2, e2⟩ | ⟨k, d1, w1, e, k0, k9, r1, e2⟩)
  · exact .inl z
  · exact .inr (.inl ⟨as, d1, d2, w1, w2, hl, e, ha, h _ _ r1, h _ _ r2, e2⟩)
  · exact .inr (.inr ⟨k, d1, w1, e, k0, k9, h _ _ r1, e2⟩)
theorem lw_mono {R R' : PyData → List Str → Prop} {m m' : Nat} (hm : m ≤ m') (h : ∀ d ws, R d ws → R' d ws) {ds : List PyData} {ws : List Str} (z : LW m R ds ws) : LW m' R' ds ws := by
  obtain ⟨l, wss, pa, e⟩ := z
  exact ⟨Nat.le_trans l hm, wss, L2.Paired.mapP pa fun _ _ z => h _ _ z, e⟩
theorem sw_up : ∀ (n : Nat) {d : PyData} {ws : List Str}, SW n d ws → SW (n + 1) d ws
  | 0, d, ws, h => sw_mono (fun _ _ z => z.elim) h
  | n + 1, d, ws, h => sw_mono (fun ds ws z => lw_mono (Nat.le_refl _) (fun _ _ z => sw_up n z) z) h
end Lw

set_option maxRecDepth 100000
set_option linter.unusedVariables false
namespace Lw
open PySem PySem.Spec PyProof.Rows L2 VG
/-! ### the program's words -/
abbrev tVs (ws : List Str) : List V := ws.map V.str
theorem tVs_app (a b : List Str) : tVs a ++ tVs b = tVs (a ++ b) := List.map_append.symm
section
variable {P : Program} {w : World} {K : PySem.W.Frag} {mg : Str → Option Value} {base : Heap}
theorem num_isi {H : Hp} {x : V} {d : PyData} (hd : Dp K H x d) (ok : okR d = true) : ∃ t, TyX K H x t ∧ PySem.W.kitOne K t (.type "str") = some false := by
  unfold okR at ok
  cases e : whole d with
  | true =>
    obtain ⟨i, rfl⟩ := whole_int e
    cases hd
    exact ⟨_, .base (.int i), kit_ty (by decide +kernel)⟩
  | false =>
    rw [e] at ok
    obtain ⟨t, b, rfl, _⟩ := isRat_form ok
    obtain ⟨a, xs, rfl, hs, hds⟩ := dp_tup hd
    exact ⟨_, tyx_tup hs, kit_ty (by decide +kernel)⟩
def spItems (K : PySem.W.Frag) : Sp := fun vs H Q _ => ∃ (a : Addr) (xs : List V) (ds : List PyData), vs = [.ref a] ∧ SqL K H a xs ∧ DpAll K H xs ds ∧ (∀ e ∈ ds, Atom e) ∧ ds.length ≤ 10 ∧
  ∀ (D : Addr) (H' : Hp), H D = none → Same H H' → H' D = some (.lst (tVs (ds.map txtD))) → Q (.ref D) H'
theorem scItems : FnScope ["items", "item"] ["items"] (defScope s__item_words) := ⟨rfl, rfl, rfl, by decide +kernel, rfl, by decide +kernel, by decide +kernel⟩
theorem ok_items {f fT : Addr} {fd fdT : FuncData} (F : Fun K "_item_words" "_item_words" s__item_words f fd) (ti : mg "isinstance" = none) (ts : mg "str" = none) (GT : FnOk P w K mg base CX0 4 fT fdT ["value"] (spText K)) (mT : mg "ratio_text" = some (.ref fT)) (kT : PySem.W.keepIn K (.ref fT) = true) (bT : Binds K fdT ["value"] []) :
    FnOk P w K mg base CX0 5 f fd ["items"] (spItems K) := by
  refine F.ok scItems (fun vs H Q E h => ?_) (fun cdv A outer s H vs Q E hr h => ?_)
  · obtain ⟨a, xs, ds, rfl, _⟩ := h
    rfl
  · obtain ⟨a, xs, ds, rfl, hx, hd, ha, hl, k⟩ := h
    have nd := scItems.nd
    refine ⟨_, pss_one (ps_ret (pe_lc (own := [("item", 1)]) (g := gName 1) (tt := tYes) rfl nd (pi_list (pv 0)) (blkOk_by (own := [("item", 1)]) (N := ["items", "item"]) (sc := defScope s__item_words) (by decide +kernel)) (fun _ _ _ _ _ => pg_name (i := 1) nd rfl (Or.inl rfl)) (fun _ _ _ _ _ => pts_nil)
      (fun _ _ _ _ _ => pe_ifExp (pt_val (pe_callB (show CallR _ (.builtin "isinstance") (rIsi K) from call_isi) (by rfl) ti (by decide +kernel) (pa_cons (pv 1) (pa_cons (pe_bltn (v := .ty "str") (by rfl) ts (by decide +kernel) rfl) pa_nil)))) (pv 1) (pe_call GT hr (by rfl) mT kT bT .nil pass0 (pa_cons (pv 1) pa_nil))))), ?_⟩
    refine ⟨_, rfl, a, rfl, ⟨_, hx⟩, fun D hD => ?_⟩
    have mD := same_upd (o := .lst []) hD
    have lx := DpAll.len hd
    refine lc_list (K := K) (a := a) (xs := xs) (fun i G => Same H G ∧ G D = some (.lst (tVs ((ds.take i).map txtD)))) ⟨mD, upd_same⟩ (fun i G _ c => Same.seq c.1 hx) (fun i v G hv c => ?_) (fun G c => ?_)
    · obtain ⟨sm, hG⟩ := c
      obtain ⟨d, hdi, hvd⟩ := DpAll.at' hd hv
      have hvd := Dp.same sm _ _ hvd
      have at_ := ha d (List.mem_of_getElem? hdi)
      have et : ds.take (i + 1) = ds.take i ++ [d] := by
        rw [List.take_add_one, hdi]
        rfl
      have fin : ∀ {G' : Hp}, Same G G' → ∃ acc, G' D = some (.lst acc) ∧ acc.length < sizeLine ∧ Same H (upd G' D (.lst (acc ++ [.str (txtD d)]))) ∧ upd G' D (.lst (acc ++ [.str (txtD d)])) D = some (.lst (tVs ((ds.take (i + 1)).map txtD))) := fun {G'} e => by
        refine ⟨_, e _ _ hG, ?_, fun b o hb => ?_, ?_⟩
        · rw [List.length_map, List.length_map, List.length_take]
          exact Nat.lt_of_le_of_lt (Nat.min_le_right _ _) (Nat.lt_of_le_of_lt hl (by decide))
        · rw [upd_ne (ne_of_none hb hD)]
          exact e _ _ (sm _ _ hb)
        · rw [upd_same, et, List.map_append]
          exact congrArg (fun z => some (HO.lst z)) (tVs_app ((ds.take i).map txtD) [txtD d])
      refine ⟨rfl, ?_⟩
      by_cases z : ∃ z, d = .str z
      · obtain ⟨z, rfl⟩ := z
        cases hvd
        exact ⟨_, rfl, _, _, _, _, true, rfl, .ty "str", .base (.str z), kit_ty (by decide +kernel), _, rfl, iteT ⟨_, rfl, fin fun _ _ z => z⟩⟩
      · have z : ∀ y, d ≠ .str y := fun y e => z ⟨y, e⟩
        obtain ⟨o1, o2, o3⟩ := atom_len at_ z
        obtain ⟨t, t1, t2⟩ := num_isi hvd o1
        refine ⟨_, rfl, _, _, _, _, false, rfl, .ty "str", t1, t2, _, rfl, iteF ⟨_, rfl, v, d, rfl, hvd, o1, o2, o3, fun G' e => ?_⟩⟩
        have := fin e
        rw [txt_num o1] at this
        exact this
    · obtain ⟨sm, hG⟩ := c
      rw [lx, List.take_length] at hG
      exact k D G hD sm hG
/-- the words of steps in brackets -/
def spBr (K : PySem.W.Frag) (R : List PyData → List Str → Prop) : Sp := fun vs H Q _ => ∃ (x : V) (ds : List PyData) (ws : List Str), vs = [x] ∧ Dp K H x (.tuple ds) ∧ R ds ws ∧
  ∀ (D : Addr) (H' : Hp), H D = none → Same H H' → H' D = some (.lst (tVs (("(" : Str) :: (ws ++ [(")" : Str)])))) → Q (.ref D) H'
def spWs (K : PySem.W.Frag) (R : List PyData → List Str → Prop) : Sp := fun vs H Q _ => ∃ (x : V) (ds : List PyData) (ws : List Str), vs = [x] ∧ Dp K H x (.tuple ds) ∧ R ds ws ∧
  ∀ (D : Addr) (H' : Hp), H D = none → Same H H' → H' D = some (.lst (tVs ws)) → Q (.ref D) H'
def spSt (K : PySem.W.Frag) (R : PyData → List Str → Prop) : Sp := fun vs H Q _ => ∃ (x : V) (d : PyData) (ws : List Str), vs = [x] ∧ Dp K H x d ∧ R d ws ∧
  ∀ (D : Addr) (H' : Hp), H D = none → Same H H' → H' D = some (.lst (tVs ws)) → Q (.ref D) H'
/-- a promise of nothing -/
theorem ok_never {k : Nat} {f : Addr} {fd : FuncData} {ps : List Str} : FnOk P w K mg base CX0 k f fd ps (fun _ _ _ _ => False) := ⟨fun _ _ _ _ h => h.elim, fun _ _ _ _ _ _ _ _ _ _ _ _ _ h => h.elim⟩
theorem line_of {n : Nat} (h : n ≤ 200000) : n ≤ sizeLine := Nat.le_trans h (by decide)
theorem scBrack : FnScope ["steps"] ["steps"] (defScope s__bracketed) := ⟨rfl, rfl, rfl, by decide +kernel, rfl, by decide +kernel, by decide +kernel⟩
theorem ok_brack {R : List PyData → List Str → Prop} {j : Nat} {f fW : Addr} {fd fdW : FuncData} (hR : ∀ ds ws, R ds ws → ws.length ≤ 5000) (F : Fun K "_bracketed" "_bracketed" s__bracketed f fd) (GW : FnOk P w K mg base CX0 j fW fdW ["steps"] (spWs K R)) (mW : mg "_words_of" = some (.ref fW)) (kW : PySem.W.keepIn K (.ref fW) = true) (bW : Binds K fdW ["steps"] []) :
    FnOk P w K mg base CX0 (j + 1) f fd ["steps"] (spBr K R) := by
  refine F.ok scBrack (fun vs H Q E h => ?_) (fun cdv A outer s H vs Q E hr h => ?_)
  · obtain ⟨x, ds, ws, rfl, _⟩ := h
    rfl
  · obtain ⟨x, ds, ws, rfl, hx, r, k⟩ := h
    refine ⟨_, pss_one (ps_ret (pe_lst (pa_cons pe_str (StX.pa_star (pe_call GW hr (by rfl) mW kW bW .nil pass0 (pa_cons (pv 0) pa_nil)) (pa_cons pe_str pa_nil))))), ?_⟩
    refine ⟨_, rfl, x, ds, ws, rfl, hx, r, fun D G hD sm hG => ⟨D, _, rfl, .inr (SqL.of hG), ?_, fun T hT => ?_⟩⟩
    · have := hR _ _ r
      refine line_of ?_
      simp only [List.length_cons, List.length_append, List.length_map, List.length_nil]
      omega
    · refine k T _ (sm.free hT) (sm.trans (same_upd hT)) ?_
      rw [upd_same]
      refine congrArg (fun z => some (HO.lst z)) ?_
      simp [tVs]
end
end Lw

set_option maxRecDepth 100000
set_option linter.unusedVariables false
namespace Lw
open PySem PySem.Spec PyProof.Rows L2 VG
section
variable {P : Program} {w : World} {K : PySem.W.Frag} {mg : Str → Option Value} {base : Heap}
abbrev NSt : List Str := ["step", "word", "items", "asked", "first", "second", "many", "inner"]
theorem scStep : FnScope NSt ["step"] (defScope s__step_words) := ⟨rfl, rfl, rfl, by decide +kernel, rfl, by decide +kernel, by decide +kernel⟩
theorem str_cmp {a b : Str} : decide (V.str a = V.str b) = decide (a = b) := by
  by_cases z : a = b
  · rw [z, decide_eq_true rfl, decide_eq_true rfl]
  · rw [decide_eq_false z, decide_eq_false fun y => z (V.str.inj y)]
theorem split4 {xs : List V} {H : Hp} {as : List PyData} {e1 e2 : PyData} (hl : as.length = 4) (h : DpAll K H xs (as ++ [e1, e2])) : ∃ ys v1 v2, xs = ys ++ [v1, v2] ∧ ys.length = 4 ∧ DpAll K H ys as ∧ Dp K H v1 e1 ∧ Dp K H v2 e2 := by
  match as, hl with
  | [a, b, c, d], _ =>
    match xs, h with
    | _, .cons h1 (.cons h2 (.cons h3 (.cons h4 (.cons h5 (.cons h6 .nil))))) => exact ⟨[_, _, _, _], _, _, rfl, rfl, .cons h1 (.cons h2 (.cons h3 (.cons h4 .nil))), h5, h6⟩
theorem dp_word {xs : List V} {H : Hp} {u : Str} {ds : List PyData} (h : DpAll K H xs (.str u :: ds)) : ∃ ys, xs = .str u :: ys ∧ DpAll K H ys ds := by
  cases h with
  | cons h t =>
    cases h
    exact ⟨_, rfl, t⟩
theorem ok_step {R : List PyData → List Str → Prop} {j : Nat} {f fI fB : Addr} {fd fdI fdB : FuncData} (hj : 5 ≤ j) (hR : ∀ ds ws, R ds ws → ws.length ≤ 5000) (F : Fun K "_step_words" "_step_words" s__step_words f fd)
    (GI : FnOk P w K mg base CX0 5 fI fdI ["items"] (spItems K)) (mI : mg "_item_words" = some (.ref fI)) (kI : PySem.W.keepIn K (.ref fI) = true) (bI : Binds K fdI ["items"] [])
    (GB : FnOk P w K mg base CX0 j fB fdB ["steps"] (spBr K R)) (mB : mg "_bracketed" = some (.ref fB)) (kB : PySem.W.keepIn K (.ref fB) = true) (bB : Binds K fdB ["steps"] []) :
    FnOk P w K mg base CX0 (j + 1) f fd ["step"] (spSt K (StW R)) := by
  refine F.ok scStep (fun vs H Q E h => ?_) (fun cdv A outer s H vs Q E hr h => ?_)
  · obtain ⟨x, d, ws, rfl, _⟩ := h
    rfl
  · obtain ⟨x, d, ws, rfl, hx, hW, k⟩ := h
    have nd := scStep.nd
    have hr5 : Room 5 _ := hr.mono hj
    refine ⟨_, C8.pss_cut (ps_asg (pv 0) (pg_star (n := 2) (i := 1) (by rfl) (pgs_cons (pg_name (i := 1) nd rfl (Or.inl rfl)) (pgs_star (pg_name (i := 2) nd rfl (Or.inl rfl)) pgs_nil))))
      (pss_cons (ps_if (pt_cmpR op_eq (pv 1) pe_str (nomark _))
        (C8.pss_cut (ps_asg (pv 2) (pg_star (n := 3) (i := 0) (by rfl) (pgs_star (pg_name (i := 3) nd rfl (Or.inl rfl)) (pgs_cons (pg_name (i := 4) nd rfl (Or.inl rfl)) (pgs_cons (pg_name (i := 5) nd rfl (Or.inl rfl)) pgs_nil)))))
          (pss_one (ps_ret (pe_lst (pa_cons (pv 1) (StX.pa_star (pe_call GI hr5 (by rfl) mI kI bI .nil pass0 (pa_cons (pv 3) pa_nil)) (StX.pa_star (pe_call GB hr (by rfl) mB kB bB .nil pass0 (pa_cons (pv 4) pa_nil)) (pa_cons pe_str (StX.pa_star (pe_call GB hr (by rfl) mB kB bB .nil pass0 (pa_cons (pv 5) pa_nil)) pa_nil)))))))))
        pss_nil)
      (pss_cons (ps_if (pt_cmpR op_eq (pv 1) pe_str (nomark _))
        (pss_cons (ps_asg (pv 2) (pg_lst (by rfl) (pgs_cons (pg_name (i := 6) nd rfl (Or.inl rfl)) (pgs_cons (pg_name (i := 7) nd rfl (Or.inl rfl)) pgs_nil))))
          (pss_one (ps_ret (pe_lst (pa_cons (pv 1) (StX.pa_star (pe_call GI hr5 (by rfl) mI kI bI .nil pass0 (pa_cons (pe_lst (pa_cons (pv 6) pa_nil)) pa_nil)) (StX.pa_star (pe_call GB hr (by rfl) mB kB bB .nil pass0 (pa_cons (pv 7) pa_nil)) pa_nil)))))))
        pss_nil)
      (pss_one (ps_ret (pe_lst (pa_cons (pv 1) (StX.pa_star (pe_call GI hr5 (by rfl) mI kI bI .nil pass0 (pa_cons (pv 2) pa_nil)) pa_nil))))))), ?_⟩
    have hd : ∃ u items, d = .tuple (.str u :: items) := by
      rcases hW with ⟨u, items, e, _⟩ | ⟨as, d1, d2, w1, w2, _, e, _⟩ | ⟨n, d1, w1, e, _⟩ <;> exact ⟨_, _, e⟩
    obtain ⟨u, items, rfl⟩ := hd
    obtain ⟨a, xs, rfl, hT, hds⟩ := dp_tup hx
    obtain ⟨ys, rfl, hys⟩ := dp_word hds
    · refine ⟨fun σ G => ∃ D, σ = [some (.ref a), some (.str u), some (.ref D), none, none, none, none, none] ∧ H D = none ∧ Same H G ∧ G D = some (.lst ys), ?_, ?_⟩
      · refine ⟨_, rfl, a, _, rfl, .inl hT, by decide, by simp, fun D hD => ?_⟩
        have e1 : (V.str u :: ys).take 1 ++ [V.ref D] ++ ((V.str u :: ys).drop 1).drop ((V.str u :: ys).length + 1 - 2) = [V.str u, .ref D] := by
          have : (V.str u :: ys).length + 1 - 2 = ys.length := by simp
          rw [this]
          simp
        have e2 : ((V.str u :: ys).drop 1).take ((V.str u :: ys).length + 1 - 2) = ys := by
          have : (V.str u :: ys).length + 1 - 2 = ys.length := by simp
          rw [this]
          simp
        rw [e1, e2]
        exact ⟨_, _, rfl, _, _, rfl, rfl, D, rfl, hD, same_upd hD, upd_same⟩
      · rintro σ G ⟨D, rfl, hD, sm, hG⟩
        have hysG : DpAll K G ys items := DpAll.same sm _ _ hys
        -- the end of each: the new list of the words
        have fin : ∀ {G' : Hp} {vs' : List V}, Same G G' → vs' = tVs ws → vs'.length ≤ 200000 → vs'.length ≤ sizeLine ∧ ∀ p, G' p = none → Q (.ref p) (upd G' p (.lst vs')) := fun {G' vs'} e ev l => by
          refine ⟨line_of l, fun p hp => ?_⟩
          have e' := sm.trans e
          refine k p _ (e'.free hp) (e'.trans (same_upd hp)) ?_
          rw [upd_same, ev]
        refine ⟨_, rfl, rfl, _, rfl, ?_⟩
        rw [str_cmp]
        rcases hW with ⟨u', items', e, rfl, hu, n1, n2, hl, ha⟩ | ⟨as, d1, d2, w1, w2, hl, e, ha, r1, r2, rfl⟩ | ⟨n, d1, w1, e, k0, k9, r1, rfl⟩
        · obtain ⟨e1, e2⟩ := List.cons.inj (PyData.tuple.inj e)
          cases e1
          subst e2
          rw [decide_eq_false n1]
          refine iteF ⟨_, rfl, rfl, _, rfl, ?_⟩
          rw [str_cmp, decide_eq_false n2]
          refine iteF ⟨_, rfl, _, rfl, D, ys, items, rfl, SqL.of hG, hysG, ha, by omega, fun D2 G2 hD2 s2 hG2 => ⟨D2, _, rfl, .inr (SqL.of hG2), ?_⟩⟩
          refine fin s2 (by simp [tVs]) ?_
          simp only [List.length_cons, List.length_append, List.length_map, List.length_nil]
          omega
        · obtain ⟨e1, e2⟩ := List.cons.inj (PyData.tuple.inj e)
          cases e1
          subst e2
          rw [decide_eq_true rfl]
          obtain ⟨zs, v1, v2, rfl, lz, hzs, hv1, hv2⟩ := split4 hl hysG
          refine iteT ?_
          refine ⟨fun σ G1 => ∃ D1, σ = [some (.ref a), some (.str "if"), some (.ref D), some (.ref D1), some v1, some v2, none, none] ∧ Same G G1 ∧ G1 D1 = some (.lst zs), ?_, ?_⟩
          · refine ⟨_, rfl, D, _, rfl, .inr (SqL.of hG), by decide, by simp, fun D1 hD1 => ?_⟩
            have e0 : (zs ++ [v1, v2]).length + 1 - 3 = zs.length := by simp
            have e1 : (zs ++ [v1, v2]).take 0 ++ [V.ref D1] ++ ((zs ++ [v1, v2]).drop 0).drop ((zs ++ [v1, v2]).length + 1 - 3) = [V.ref D1, v1, v2] := by
              rw [e0]
              simp
            have e2 : ((zs ++ [v1, v2]).drop 0).take ((zs ++ [v1, v2]).length + 1 - 3) = zs := by
              rw [e0]
              simp
            rw [e1, e2]
            exact ⟨_, _, rfl, _, _, rfl, _, _, rfl, rfl, D1, rfl, same_upd hD1, upd_same⟩
          · rintro σ G1 ⟨D1, rfl, s1, hG1⟩
            have l1 := hR _ _ r1
            have l2 := hR _ _ r2
            refine ⟨_, rfl, _, rfl, D1, zs, as, rfl, SqL.of hG1, DpAll.same s1 _ _ hzs, ha, by omega, fun D2 G2 hD2 s2 hG2 => ⟨D2, _, rfl, .inr (SqL.of hG2), ?_⟩⟩
            refine ⟨_, rfl, v1, d1, w1, rfl, Dp.same (s1.trans s2) _ _ hv1, r1, fun D3 G3 hD3 s3 hG3 => ⟨D3, _, rfl, .inr (SqL.of hG3), ?_⟩⟩
            refine ⟨_, rfl, v2, d2, w2, rfl, Dp.same ((s1.trans s2).trans s3) _ _ hv2, r2, fun D4 G4 hD4 s4 hG4 => ⟨D4, _, rfl, .inr (SqL.of hG4), ?_⟩⟩
            refine fin (((s1.trans s2).trans s3).trans s4) (by simp [tVs]) ?_
            simp only [List.length_cons, List.length_append, List.length_map, List.length_nil]
            omega
        · obtain ⟨e1, e2⟩ := List.cons.inj (PyData.tuple.inj e)
          cases e1
          subst e2
          rw [decide_eq_false (by decide +kernel)]
          refine iteF ⟨_, rfl, rfl, _, rfl, ?_⟩
          rw [str_cmp, decide_eq_true rfl]
          obtain ⟨v1, v2, rfl, hv1, hv2⟩ := dpAll2 hysG
          cases hv1
          have l1 := hR _ _ r1
          refine iteT ⟨_, rfl, D, _, rfl, SqL.of hG, rfl, _, _, rfl, _, _, rfl, rfl, _, rfl, _, rfl, (show 1 ≤ sizeLine by decide), fun D1 hD1 => ?_⟩
          have s1 := same_upd (o := .lst [.int n]) hD1
          refine ⟨D1, _, [.int n], rfl, SqL.of upd_same, .cons (.int n) .nil, fun e he => by rw [List.mem_singleton.mp he]; exact atom_int k0 (by omega), (show 1 ≤ 10 by decide), fun D2 G2 hD2 s2 hG2 => ⟨D2, _, rfl, .inr (SqL.of hG2), ?_⟩⟩
          refine ⟨_, rfl, v2, d1, w1, rfl, Dp.same (s1.trans s2) _ _ hv2, r1, fun D3 G3 hD3 s3 hG3 => ⟨D3, _, rfl, .inr (SqL.of hG3), ?_⟩⟩
          refine fin ((s1.trans s2).trans s3) (by simp [tVs]) ?_
          simp only [List.length_cons, List.length_append, List.length_map, List.length_nil]
          omega
theorem scWs : FnScope ["steps", "words", "step"] ["steps"] (defScope s__words_of) := ⟨rfl, rfl, rfl, by decide +kernel, rfl, by decide +kernel, by decide +kernel⟩
theorem paired_at2 {α β : Type} {R : α → β → Prop} : ∀ {xs : List α} {ys : List β} {i : Nat} {x : α}, Paired R xs ys → xs[i]? = some x → ∃ y, ys[i]? = some y ∧ R x y
  | _, _, 0, _, .cons h _, e => by
    cases e
    exact ⟨_, rfl, h⟩
  | _, _, i + 1, _, .cons _ t, e => paired_at2 (i := i) t e
theorem ok_words {R : PyData → List Str → Prop} {m j : Nat} {f fS : Addr} {fd fdS : FuncData} (hm : m ≤ 16) (hR : ∀ d ws, R d ws → Sz 7000 ws) (F : Fun K "_words_of" "_words_of" s__words_of f fd)
    (GS : FnOk P w K mg base CX0 j fS fdS ["step"] (spSt K R)) (mS : mg "_step_words" = some (.ref fS)) (kS : PySem.W.keepIn K (.ref fS) = true) (bS : Binds K fdS ["step"] []) :
    FnOk P w K mg base CX0 (j + 1) f fd ["steps"] (spWs K (LW m R)) := by
  refine F.ok scWs (fun vs H Q E h => ?_) (fun cdv A outer s H vs Q E hr h => ?_)
  · obtain ⟨x, ds, ws, rfl, _⟩ := h
    rfl
  · obtain ⟨x, ds, ws, rfl, hx, ⟨hl, wss, pa, rfl⟩, k⟩ := h
    have nd := scWs.nd
    refine ⟨_, pss_cons (ps_set (i := 1) nd rfl (Or.inl rfl) (pe_lst pa_nil))
      (pss_cons (ps_for PassesOwn.never rfl (pi_tup (pv 0)) (pg_name (i := 2) nd rfl (Or.inl rfl))
        (C8.pss_cut (ps_if (pt_truth (pv 1) fun _ => rfl) (pss_one (ps_expr (pe_bm PySem.F.plainAttrs_list PySem.F.slot_list_append PySem.F.type_list_append mt_append (pv 1) (pa_cons pe_str pa_nil)))) pss_nil)
        (pss_one (ps_expr (pe_bm PySem.F.plainAttrs_list PySem.F.slot_list_extend PySem.F.type_list_extend mt_extend (pv 1) (pa_cons (pe_call GS hr (by rfl) mS kS bS .nil pass0 (pa_cons (pv 2) pa_nil)) pa_nil))))))
      (pss_one (ps_ret (pv 1)))), ?_⟩
    obtain ⟨a, xs, rfl, hT, hds⟩ := dp_tup hx
    have lx := DpAll.len hds
    have lw := paired_len2 pa
    refine ⟨by decide, fun D hD => ?_⟩
    have mD := same_upd (o := .lst []) hD
    have stay : ∀ {G : Hp} {o : HO}, Same H G → Same H (upd G D o) := fun {G o} e b u hb => by
      rw [upd_ne (ne_of_none hb hD)]
      exact e _ _ hb
    have szs : ∀ i, i ≤ wss.length → (sepJ (wss.take i)).length ≤ 120000 := fun i hi => by
      have h := (sep_size (c := 7000) (wss := wss.take i) fun ws hw => by
        obtain ⟨d, _, hr⟩ := paired_mem2 pa (List.mem_of_mem_take hw)
        exact hR d ws hr).1
      rw [List.length_take] at h
      have : min i wss.length * (7000 + 1) ≤ 16 * (7000 + 1) := Nat.mul_le_mul_right _ (by omega)
      omega
    refine ⟨_, rfl, a, rfl, ⟨_, Same.tup mD hT⟩, for_tup (K := K) (a := a) (xs := xs) (fun i σ G => ∃ o, σ = [some (.ref a), some (.ref D), o] ∧ Same H G ∧ G D = some (.lst (tVs (sepJ (wss.take i))))) ⟨_, rfl, mD, upd_same⟩ (fun i σ G _ ⟨_, _, e, _⟩ => Same.tup e hT) ?_ ?_⟩
    · rintro i v σ G hv ⟨o, rfl, sm, hG⟩
      obtain ⟨d, hdi, hvd⟩ := DpAll.at' hds hv
      obtain ⟨wd, hwi, hrd⟩ := paired_at2 pa hdi
      have li : i < wss.length := (List.getElem?_eq_some_iff.mp hwi).1
      have et : wss.take (i + 1) = wss.take i ++ [wd] := by
        rw [List.take_add_one, hwi]
        rfl
      have lacc := szs i (by omega)
      have lwd := (hR _ _ hrd).1
      refine ⟨fun σ G1 => σ = [some (.ref a), some (.ref D), some v] ∧ Same H G1 ∧ G1 D = some (.lst (tVs (sepJ (wss.take i) ++ (if sepJ (wss.take i) = [] then [] else [(";" : Str)])))), ?_, ?_⟩
      · refine ⟨_, rfl, _, .inl ⟨_, SqL.of hG, rfl⟩, ?_⟩
        by_cases z : sepJ (wss.take i) = []
        · rw [if_pos z, z]
          rw [z] at hG
          exact iteF ⟨rfl, sm, hG⟩
        · have : (!(tVs (sepJ (wss.take i))).isEmpty) = true := by
            cases q : sepJ (wss.take i) with
            | nil => exact absurd q z
            | cons _ _ => rfl
          rw [if_neg z, this]
          refine iteT ⟨_, rfl, .inl ⟨rfl, _, SqL.of hG⟩, D, _, _, rfl, rfl, hG, ?_, rfl, stay sm, ?_⟩
          · rw [List.length_map]
            exact Nat.lt_of_le_of_lt lacc (by decide)
          · rw [upd_same, ← tVs_app]
            rfl
      · rintro σ G1 ⟨rfl, s1, hG1⟩
        refine ⟨_, rfl, .inl ⟨rfl, _, SqL.of hG1⟩, _, rfl, v, d, wd, rfl, Dp.same s1 _ _ hvd, hrd, fun D2 G2 hD2 s2 hG2 => ?_⟩
        refine ⟨D, D2, _, _, rfl, rfl, s2 _ _ hG1, hG2, line_of ?_, _, rfl, stay (s1.trans s2), ?_⟩
        · have : (if sepJ (wss.take i) = [] then [] else [(";" : Str)]).length ≤ 1 := by split <;> simp
          rw [List.length_map, List.length_map, List.length_append]
          omega
        · rw [upd_same, et, sepJ_snoc, ← tVs_app _ wd]
    · rintro σ G ⟨o, rfl, sm, hG⟩
      rw [lx, lw, List.take_length] at hG
      exact ⟨_, rfl, k D G hD sm hG⟩
end
end Lw

set_option maxRecDepth 100000
set_option linter.unusedVariables false
namespace Lw
open PySem PySem.Spec PyProof.Rows L2 VG
/-! ### all levels; text_of -/
section
variable {P : Program} {w : World} {K : PySem.W.Frag} {mg : Str → Option Value} {base : Heap}
/-- the defs of the words, as the program has them -/
structure PW (K : PySem.W.Frag) (mg : Str → Option Value) (fI fB fS fW : Addr) (fdI fdB fdS fdW : FuncData) : Prop where
  uS : Fun K "_step_words" "_step_words" s__step_words fS fdS
  uB : Fun K "_bracketed" "_bracketed" s__bracketed fB fdB
  uW : Fun K "_words_of" "_words_of" s__words_of fW fdW
  mI : mg "_item_words" = some (.ref fI)
  kI : PySem.W.keepIn K (.ref fI) = true
  bI : Binds K fdI ["items"] []
  mB : mg "_bracketed" = some (.ref fB)
  kB : PySem.W.keepIn K (.ref fB) = true
  bB : Binds K fdB ["steps"] []
  mS : mg "_step_words" = some (.ref fS)
  kS : PySem.W.keepIn K (.ref fS) = true
  bS : Binds K fdS ["step"] []
  mW : mg "_words_of" = some (.ref fW)
  kW : PySem.W.keepIn K (.ref fW) = true
  bW : Binds K fdW ["steps"] []
variable {fI fB fS fW : Addr} {fdI fdB fdS fdW : FuncData}
theorem ok_st0 (p : PW K mg fI fB fS fW fdI fdB fdS fdW) (GI : FnOk P w K mg base CX0 5 fI fdI ["items"] (spItems K)) : FnOk P w K mg base CX0 6 fS fdS ["step"] (spSt K (SW 0)) :=
  ok_step (R := fun _ _ => False) (j := 5) (Nat.le_refl _) (fun _ _ z => z.elim) p.uS GI p.mI p.kI p.bI (ok_never.imp fun vs H Q E h => by
    obtain ⟨_, _, _, _, _, z, _⟩ := h
    exact z) p.mB p.kB p.bB
theorem ok_wsN (p : PW K mg fI fB fS fW fdI fdB fdS fdW) {n m j : Nat} (hn : szN n ≤ 7000) (hm : m ≤ 16) (GS : FnOk P w K mg base CX0 j fS fdS ["step"] (spSt K (SW n))) : FnOk P w K mg base CX0 (j + 1) fW fdW ["steps"] (spWs K (LW m (SW n))) :=
  ok_words hm (fun d ws z => by
    obtain ⟨l, a⟩ := sw_size n z
    exact ⟨Nat.le_trans l hn, a⟩) p.uW GS p.mS p.kS p.bS
theorem ok_stN (p : PW K mg fI fB fS fW fdI fdB fdS fdW) (GI : FnOk P w K mg base CX0 5 fI fdI ["items"] (spItems K)) {n j : Nat} (hj : 5 ≤ j) (hn : szN n ≤ 400) (GS : FnOk P w K mg base CX0 j fS fdS ["step"] (spSt K (SW n))) : FnOk P w K mg base CX0 (j + 3) fS fdS ["step"] (spSt K (SW (n + 1))) := by
  have hR : ∀ ds ws, LW 12 (SW n) ds ws → ws.length ≤ 5000 := fun ds ws z => by
    have := (lw_size (fun d ws z => sw_size n z) z).1
    omega
  exact ok_step (R := LW 12 (SW n)) (j := j + 2) (by omega) hR p.uS GI p.mI p.kI p.bI (ok_brack hR p.uB (ok_wsN p (Nat.le_trans hn (by decide)) (by decide) GS) p.mW p.kW p.bW) p.mB p.kB p.bB
theorem ok_ws2 (p : PW K mg fI fB fS fW fdI fdB fdS fdW) (GI : FnOk P w K mg base CX0 5 fI fdI ["items"] (spItems K)) : FnOk P w K mg base CX0 13 fW fdW ["steps"] (spWs K (LW 16 (SW 2))) :=
  ok_wsN p (by decide) (by decide) (ok_stN p GI (by decide) (by decide) (ok_stN p GI (by decide) (by decide) (ok_st0 p GI)))
theorem sum_len {ws : List Str} (h : ∀ w ∈ ws, wdB w) : (ws.map (·.length)).sum ≤ 12 * ws.length := by
  induction ws with
  | nil => simp
  | cons a t ih =>
    have h1 := (h a List.mem_cons_self).1
    have h2 := ih fun w hw => h w (List.mem_cons_of_mem _ hw)
    simp only [List.map_cons, List.sum_cons, List.length_cons]
    omega
theorem lw2_size {ds : List PyData} {ws : List Str} (h : LW 16 (SW 2) ds ws) : Sz 105776 ws := lw_size (c := 6610) (fun d ws z => sw_size 2 z) h
/-- the words with spaces between -/
def joined (ws : List Str) : Str := Txt.join " " ws
def spTextOf (K : PySem.W.Frag) : Sp := fun vs H Q _ => ∃ (x : V) (ds : List PyData) (ws : List Str), vs = [x] ∧ Dp K H x (.tuple ds) ∧ LW 16 (SW 2) ds ws ∧ ∀ H', Same H H' → Q (.str (joined ws)) H'
theorem scTextOf : FnScope ["steps"] ["steps"] (defScope s_text_of) := ⟨rfl, rfl, rfl, by decide +kernel, rfl, by decide +kernel, by decide +kernel⟩
theorem ok_textOf {f : Addr} {fd : FuncData} (F : Fun K "text_of" "text_of" s_text_of f fd) (GW : FnOk P w K mg base CX0 13 fW fdW ["steps"] (spWs K (LW 16 (SW 2)))) (mW : mg "_words_of" = some (.ref fW)) (kW : PySem.W.keepIn K (.ref fW) = true) (bW : Binds K fdW ["steps"] []) :
    FnOk P w K mg base CX0 14 f fd ["steps"] (spTextOf K) := by
  refine F.ok scTextOf (fun vs H Q E h => ?_) (fun cdv A outer s H vs Q E hr h => ?_)
  · obtain ⟨x, ds, ws, rfl, _⟩ := h
    rfl
  · obtain ⟨x, ds, ws, rfl, hx, hW, k⟩ := h
    refine ⟨_, pss_one (ps_ret (pe_join pe_str (pe_call GW hr (by rfl) mW kW bW .nil pass0 (pa_cons (pv 0) pa_nil)))), ?_⟩
    refine ⟨⟨_, rfl⟩, _, rfl, x, ds, ws, rfl, hx, hW, fun D G hD sm hG => ⟨_, D, ws, rfl, rfl, .inl (SqL.of hG), ?_, k G sm⟩⟩
    obtain ⟨l, a⟩ := lw2_size hW
    have := sum_len a
    show (ws.map (·.length)).sum + ws.length * 1 ≤ 16777216
    omega
end
end Lw

set_option maxRecDepth 100000
set_option linter.unusedVariables false
namespace Lw
open PySem PySem.Spec PyProof.Rows L2 VG
open TL (numL)
open NumText (AllDigits digitsVal)
structure NmN (mg : Str → Option Value) : Prop where
  isi : mg "isinstance" = none
  str : mg "str" = none
  len : mg "len" = none
def laysD : List PyData := [.str "foot", .str "cart"]
def layD (n : Nat) (d : PyData) : Bool := (laysD.take n).any fun z => PyData.eqv z d
structure NmL (K : PySem.W.Frag) (mg : Str → Option Value) (L : Addr) : Prop where
  lays : mg "LAYERS" = some (.ref L)
  them : ∀ H, SqT K H L [.str "foot", .str "cart"]
/-- what stands for a kind -/
def LenD (d : PyData) : Prop := okR d = true ∧ 0 ≤ (ratD d).1 ∧ (ratD d).1 ≤ 1000000 ∧ (ratD d).2 ≤ 60
def nmB (z : Str) : Prop := nameB z = true ∧ z.length ≤ 5
inductive KindOk : Str → PyData → Prop
  | layer {z : Str} (h : layB z) : KindOk "layer" (.str z)
  | name {z : Str} (h : nmB z) : KindOk "name" (.str z)
  | new {z : Str} (h : nmB z) : KindOk "new" (.str z)
  | length {d : PyData} (h : LenD d) : KindOk "length" d
  | scale {d : PyData} (h : LenD d) (g : 0 < (ratD d).1) : KindOk "scale" d
section
variable {P : Program} {w : World} {K : PySem.W.Frag} {mg : Str → Option Value} {base : Heap}
def spLet : Sp := fun vs H Q _ => ∃ z : Str, vs = [.str z, .int 5] ∧ z.length ≤ 1000 ∧ Q (.bl (nameB z)) H
theorem scLet : FnScope ["value", "most"] ["value", "most"] (defScope s__are_letters) := ⟨rfl, rfl, rfl, by decide +kernel, rfl, by decide +kernel, by decide +kernel⟩
theorem ok_let {f : Addr} {fd : FuncData} (F : Fun K "_are_letters" "_are_letters" s__are_letters f fd) (T : NmN mg) : FnOk P w K mg base CX0 1 f fd ["value", "most"] spLet := by
  refine F.ok scLet (fun vs H Q E h => ?_) (fun cdv A outer s H vs Q E hr h => ?_)
  · obtain ⟨z, rfl, _⟩ := h
    rfl
  · obtain ⟨z, rfl, hz, k⟩ := h
    refine ⟨_, pss_one (ps_ret (pe_and (pe_callB call_isi (by rfl) T.isi (by decide +kernel) (pa_cons (pv 0) (pa_cons (pe_bltn (v := .ty "str") (by rfl) T.str (by decide +kernel) rfl) pa_nil)))
      (pe_and (pe_cmpR op_le (pe_callB call_len (by rfl) T.len PySem.boot_len (pa_cons (pv 0) pa_nil)) (pv 1) (nomark _))
      (pe_and (pe_m0 PySem.F.slot_str_isascii PySem.F.type_str_isascii mt_isascii (pv 0)) (pe_and (pe_m0 PySem.F.slot_str_isalpha PySem.F.type_str_isalpha mt_isalpha (pv 0)) (pe_one (pe_m0 PySem.F.slot_str_islower PySem.F.type_str_islower mt_islower (pv 0)))))))), ?_⟩
    refine ⟨_, rfl, _, _, _, _, true, rfl, .ty "str", .base (.str z), kit_ty (by decide +kernel), _, rfl, iteT ?_⟩
    refine ⟨_, rfl, _, z.length, rfl, ⟨Nat.le_trans hz (by decide), rfl⟩, _, rfl, _, _, rfl, rfl, _, rfl, ?_⟩
    unfold nameB at k
    cases e1 : decide ((z.length : Int) ≤ 5) with
    | false =>
      rw [e1] at k
      exact iteF k
    | true =>
      rw [e1] at k
      refine iteT ⟨_, rfl, ⟨_, rfl⟩, _, rfl, rfl, trivial, _, rfl, ?_⟩
      cases e2 : Txt.isascii z with
      | false =>
        rw [e2] at k
        exact iteF k
      | true =>
        rw [e2] at k
        refine iteT ⟨_, rfl, ⟨_, rfl⟩, _, rfl, rfl, trivial, _, rfl, ?_⟩
        cases e3 : Txt.isalpha z with
        | false =>
          rw [e3] at k
          exact iteF k
        | true =>
          rw [e3] at k
          exact iteT ⟨_, rfl, ⟨_, rfl⟩, _, rfl, rfl, trivial, k⟩
def spName : Sp := fun vs H Q _ => ∃ z : Str, vs = [.str z] ∧ z.length ≤ 1000 ∧ Q (.bl (nameB z)) H
theorem scName : FnScope ["value"] ["value"] (defScope s_is_name) := ⟨rfl, rfl, rfl, by decide +kernel, rfl, by decide +kernel, by decide +kernel⟩
theorem ok_name {f fA : Addr} {fd fdA : FuncData} (F : Fun K "is_name" "is_name" s_is_name f fd) (T : NmN mg) (FA : Fun K "_are_letters" "_are_letters" s__are_letters fA fdA) (mA : mg "_are_letters" = some (.ref fA)) (bA : Binds K fdA ["value", "most"] []) :
    FnOk P w K mg base CX0 2 f fd ["value"] spName := by
  have GA : FnOk P w K mg base CX0 1 fA fdA ["value", "most"] spLet := ok_let FA T
  refine F.ok scName (fun vs H Q E h => ?_) (fun cdv A outer s H vs Q E hr h => ?_)
  · obtain ⟨z, rfl, _⟩ := h
    rfl
  · obtain ⟨z, rfl, hz, k⟩ := h
    refine ⟨_, pss_one (ps_ret (pe_call GA hr (by rfl) mA FA.kp bA .nil pass0 (pa_cons (pv 0) (pa_cons pe_int pa_nil)))), ?_⟩
    exact ⟨_, rfl, z, rfl, hz, k⟩
theorem strs_two {H : Hp} : DpAll K H [.str "foot", .str "cart"] laysD := .cons (.str _) (.cons (.str _) .nil)
def spLayer (K : PySem.W.Frag) : Sp := fun vs H Q _ => ∃ (x : V) (d : PyData) (n : Nat), vs = [x, .int n] ∧ (n = 1 ∨ n = 2) ∧ Dp K H x d ∧ Sm d ∧ ∀ H', Same H H' → Q (.bl (layD n d)) H'
theorem scLayer : FnScope ["value", "layers"] ["value", "layers"] (defScope s_is_layer) := ⟨rfl, rfl, rfl, by decide +kernel, rfl, by decide +kernel, by decide +kernel⟩
theorem ok_layer {f L : Addr} {fd : FuncData} (F : FunD K "is_layer" "is_layer" (defArgs s_is_layer) (defBody s_is_layer) (defScope s_is_layer) [.int 2] [] f fd) (T : NmL K mg L) : FnOk P w K mg base CX0 1 f fd ["value", "layers"] (spLayer K) := by
  refine F.ok scLayer (fun vs H Q E h => ?_) (fun cdv A outer s H vs Q E hr h => ?_)
  · obtain ⟨x, d, n, rfl, _⟩ := h
    rfl
  · obtain ⟨x, d, n, rfl, hn, hx, hd, k⟩ := h
    have hu : A.units + 3 + 65 < cLine := by
      have := hr.un
      show _ < _
      simp only [PySem.Around.deeper_units] at this
      omega
    refine ⟨_, PSs.nox (pss_one (ps_ret (pe_cmpR (op_inT hu) (pv 0) (pe_slice sl_tupA (pe_glob (v := .ref L) (by rfl) T.lays rfl) po_none (po_some (pv 1))) (by rfl)))), ?_⟩
    refine ⟨_, rfl, _, rfl, _, rfl, L, _, rfl, T.them H, fun hw => ?_, fun hw p hp => ?_⟩
    · have e : n = 2 := by
        rcases hn with rfl | rfl
        · exact absurd hw.2 (by decide)
        · rfl
      subst e
      refine ⟨d, laysD, hx, .tup (T.them H) strs_two, hd.shaped, by decide +kernel, ?_⟩
      exact k H (Same.refl H)
    · have e : n = 1 := by
        rcases hn with rfl | rfl
        · rfl
        · exact absurd ⟨rfl, rfl⟩ hw
      subst e
      have sm : Same H (upd H p (.tup (cutV [.str "foot", .str "cart"] none (some ((1 : Nat) : Int))))) := fun b o z => by rw [upd_ne (ne_of_none z hp)]; exact z
      refine ⟨d, [.str "foot"], Dp.same sm d x hx, .tup (SqT.of upd_same) (.cons (.str _) .nil), hd.shaped, by decide +kernel, ?_⟩
      exact k _ sm
def spCan (K : PySem.W.Frag) : Sp := fun vs H Q _ => ∃ (x : V) (d : PyData), vs = [x] ∧ Dp K H x d ∧ Q (.bl (okR d)) H
theorem scCan : FnScope ["value"] ["value"] (defScope s_can_be_ratio) := ⟨rfl, rfl, rfl, by decide +kernel, rfl, by decide +kernel, by decide +kernel⟩
theorem ok_can {f fW fR : Addr} {fd fdW fdR : FuncData} (F : Fun K "can_be_ratio" "can_be_ratio" s_can_be_ratio f fd) (FW : Fun K "_is_whole" "_is_whole" s__is_whole fW fdW) (FR : Fun K "is_ratio" "is_ratio" s_is_ratio fR fdR) (T : NmR mg)
    (mW : mg "_is_whole" = some (.ref fW)) (bW : Binds K fdW ["value"] []) (mR : mg "is_ratio" = some (.ref fR)) (bR : Binds K fdR ["value"] []) : FnOk P w K mg base CX0 3 f fd ["value"] (spCan K) := by
  refine F.ok scCan (fun vs H Q E h => ?_) (fun cdv A outer s H vs Q E hr h => ?_)
  · obtain ⟨x, d, rfl, _⟩ := h
    rfl
  · obtain ⟨x, d, rfl, hx, q⟩ := h
    refine ⟨_, pss_one (ps_ret (pe_or (pe_call (ok_whole FW T.w) (hr.mono (by omega)) (by rfl) mW FW.kp bW .nil pass0 (pa_cons (pv 0) pa_nil)) (pe_one (pe_call (ok_isRat FR FW T mW bW) hr (by rfl) mR FR.kp bR .nil pass0 (pa_cons (pv 0) pa_nil))))), ?_⟩
    refine ⟨_, rfl, x, d, rfl, hx, _, rfl, ?_⟩
    unfold okR at q
    cases e : whole d with
    | true =>
      rw [e] at q
      exact iteT q
    | false =>
      rw [e] at q
      exact iteF ⟨_, rfl, x, d, rfl, hx, q⟩
/-! ### lengths, factors, items -/
theorem scIsLen : FnScope ["value"] ["value"] (defScope s_is_length) := ⟨rfl, rfl, rfl, by decide +kernel, rfl, by decide +kernel, by decide +kernel⟩
theorem scIsScale : FnScope ["value"] ["value"] (defScope s_is_scale) := ⟨rfl, rfl, rfl, by decide +kernel, rfl, by decide +kernel, by decide +kernel⟩
def spIsLen (K : PySem.W.Frag) : Sp := fun vs H Q _ => ∃ (x : V) (d : PyData), vs = [x] ∧ Dp K H x d ∧ okR d = true ∧ ∀ H', Same H H' → Q (.bl (decide (0 ≤ (ratD d).1))) H'
def spIsScale (K : PySem.W.Frag) : Sp := fun vs H Q _ => ∃ (x : V) (d : PyData), vs = [x] ∧ Dp K H x d ∧ okR d = true ∧ ∀ H', Same H H' → Q (.bl (decide (0 < (ratD d).1))) H'
theorem ok_isLen {f fC fT : Addr} {fd fdC fdT : FuncData} (F : Fun K "is_length" "is_length" s_is_length f fd) (GC : FnOk P w K mg base CX0 3 fC fdC ["value"] (spCan K)) (mC : mg "can_be_ratio" = some (.ref fC)) (kC : PySem.W.keepIn K (.ref fC) = true) (bC : Binds K fdC ["value"] [])
    (GT : FnOk P w K mg base CX0 3 fT fdT ["value"] (spRat K)) (mT : mg "ratio_of" = some (.ref fT)) (kT : PySem.W.keepIn K (.ref fT) = true) (bT : Binds K fdT ["value"] []) : FnOk P w K mg base CX0 4 f fd ["value"] (spIsLen K) := by
  refine F.ok scIsLen (fun vs H Q E h => ?_) (fun cdv A outer s H vs Q E hr h => ?_)
  · obtain ⟨x, d, rfl, _⟩ := h
    rfl
  · obtain ⟨x, d, rfl, hx, ok, q⟩ := h
    refine ⟨_, pss_one (ps_ret (pe_and (pe_call GC hr (by rfl) mC kC bC .nil pass0 (pa_cons (pv 0) pa_nil)) (pe_one (pe_cmpR op_ge (pe_ix ix_tup (pe_call GT hr (by rfl) mT kT bT .nil pass0 (pa_cons (pv 0) pa_nil)) pe_int fun _ _ => rfl) pe_int (nomark _))))), ?_⟩
    refine ⟨_, rfl, x, d, rfl, hx, _, rfl, ?_⟩
    rw [ok]
    exact iteT ⟨_, rfl, x, d, rfl, hx, ok, fun T H' sm hT => ⟨_, _, _, _, rfl, rfl, hT, atI_nat (j := 0) rfl, _, _, rfl, rfl, q H' sm⟩⟩
theorem ok_isScale {f fC fT : Addr} {fd fdC fdT : FuncData} (F : Fun K "is_scale" "is_scale" s_is_scale f fd) (GC : FnOk P w K mg base CX0 3 fC fdC ["value"] (spCan K)) (mC : mg "can_be_ratio" = some (.ref fC)) (kC : PySem.W.keepIn K (.ref fC) = true) (bC : Binds K fdC ["value"] [])
    (GT : FnOk P w K mg base CX0 3 fT fdT ["value"] (spRat K)) (mT : mg "ratio_of" = some (.ref fT)) (kT : PySem.W.keepIn K (.ref fT) = true) (bT : Binds K fdT ["value"] []) : FnOk P w K mg base CX0 4 f fd ["value"] (spIsScale K) := by
  refine F.ok scIsScale (fun vs H Q E h => ?_) (fun cdv A outer s H vs Q E hr h => ?_)
  · obtain ⟨x, d, rfl, _⟩ := h
    rfl
  · obtain ⟨x, d, rfl, hx, ok, q⟩ := h
    refine ⟨_, pss_one (ps_ret (pe_and (pe_call GC hr (by rfl) mC kC bC .nil pass0 (pa_cons (pv 0) pa_nil)) (pe_one (pe_cmpR op_gt (pe_ix ix_tup (pe_call GT hr (by rfl) mT kT bT .nil pass0 (pa_cons (pv 0) pa_nil)) pe_int fun _ _ => rfl) pe_int (nomark _))))), ?_⟩
    refine ⟨_, rfl, x, d, rfl, hx, _, rfl, ?_⟩
    rw [ok]
    exact iteT ⟨_, rfl, x, d, rfl, hx, ok, fun T H' sm hT => ⟨_, _, _, _, rfl, rfl, hT, atI_nat (j := 0) rfl, _, _, rfl, rfl, q H' sm⟩⟩
theorem scItem : FnScope ["kind", "value", "layers"] ["kind", "value", "layers"] (defScope s_is_item) := ⟨rfl, rfl, rfl, by decide +kernel, rfl, by decide +kernel, by decide +kernel⟩
theorem lay_true {z : Str} (h : layB z) : layD 2 (.str z) = true := by
  rcases h with rfl | rfl <;> decide +kernel
theorem lay_sm {z : Str} (h : layB z) : Sm (.str z) := (smk_str (m := 4) ((by rcases h with rfl | rfl <;> decide +kernel)) (by rcases h with rfl | rfl <;> decide +kernel)).Sm
end
end Lw

set_option maxRecDepth 100000
set_option linter.unusedVariables false
namespace Lw
open PySem PySem.Spec PyProof.Rows L2 VG
open TL (numL)
/-! ### steps, their words, and the same with pairs for numbers -/
theorem nm_wd {z : Str} (h : nmB z) : wdB z := by
  refine ⟨by have := h.2; omega, ?_⟩
  have h := h.1
  unfold nameB at h
  simp only [Bool.and_eq_true, decide_eq_true_eq] at h
  have ha := h.2.1
  have e0 : PyData.strOk z = z.cps.toList.all (fun c => decide (c < 0x110000)) := by simp [PyData.strOk]
  rw [e0]
  have e : Txt.isascii z = z.cps.toList.all (fun c => decide (c < 128)) := by simp [Txt.isascii]
  rw [e] at ha
  rw [List.all_eq_true] at ha ⊢
  intro c hc
  have := of_decide_eq_true (ha c hc)
  exact decide_eq_true (by omega)
theorem LenD.atom {d : PyData} (h : LenD d) : Atom d := .inr h
theorem kind_atom {k : Str} {d : PyData} (h : KindOk k d) : Atom d := by
  cases h with
  | layer h =>
    rcases h with rfl | rfl
    · exact atom_str wd_of
    · exact atom_str wd_of
  | name h => exact atom_str (nm_wd h)
  | new h => exact atom_str (nm_wd h)
  | length h => exact h.atom
  | scale h g => exact h.atom
theorem kinds_atoms {ks : List Str} {as : List PyData} (h : Paired KindOk ks as) : ∀ e ∈ as, Atom e := fun e he => by
  obtain ⟨k, _, hk⟩ := paired_mem2 h he
  exact kind_atom hk
theorem shl_words : ∀ s ∈ SHL, (s.1.length ≤ 12 ∧ PyData.strOk s.1 = true) ∧ s.1 ≠ "if" ∧ s.1 ≠ "repeat" ∧ s.2.length ≤ 4 := by decide +kernel
end Lw

set_option maxRecDepth 100000
set_option linter.unusedVariables false
namespace Lw
open PySem PySem.Spec PyProof.Rows L2 VG
/-! what is drawn: steps that fit l layers and the names zs -/
/-- what stands for a kind, with l layers -/
inductive KindL (l : Nat) : Str → PyData → Prop
  | old {kd : Str} {d : PyData} (h : KindOk kd d) (hl : kd = "layer" → layD l d = true) : KindL l kd d
  | times {k : Int} (h1 : 1 ≤ k) (h3 : k ≤ 3) : KindL l "times" (.int k)
  | steps {ds : List PyData} : KindL l "steps" (.tuple ds)
def strD : PyData → Str
  | .str z => z
  | _ => ""
/-- the names that must be known -/
def knownI (ks : List Str) (items : List PyData) : List Str := ((ks.zip items).filter fun e : Str × PyData => decide (e.1 = "name")).map fun e => strD e.2
theorem known_cons {kd : Str} {ks : List Str} {d : PyData} {items : List PyData} : knownI (kd :: ks) (d :: items) = (if kd = "name" then [strD d] else []) ++ knownI ks items := by
  by_cases h : kd = "name"
  · rw [if_pos h]
    simp [knownI, h]
  · rw [if_neg h]
    simp [knownI, h]
theorem known_nil {items : List PyData} : knownI [] items = [] := by simp [knownI]
theorem known_no {kd : Str} {ks : List Str} {d : PyData} {items : List PyData} (h : kd ≠ "name") : knownI (kd :: ks) (d :: items) = knownI ks items := by
  rw [known_cons, if_neg h]
  rfl
theorem known_yes {ks : List Str} {d : PyData} {items : List PyData} : knownI ("name" :: ks) (d :: items) = strD d :: knownI ks items := by
  rw [known_cons, if_pos rfl]
  rfl
theorem known_ask {a g : PyData} {y z : Str} : knownI ["layer", "name", "name", "length"] [a, .str y, .str z, g] = [y, z] := by
  rw [known_no (by decide +kernel), known_yes, known_yes, known_no (by decide +kernel), known_nil]
  rfl
theorem known_place {a g e : PyData} {z : Str} : knownI ["new", "name", "length", "length"] [a, .str z, g, e] = [z] := by
  rw [known_no (by decide +kernel), known_yes, known_no (by decide +kernel), known_no (by decide +kernel), known_nil]
  rfl
theorem known_two {a b : Str} {d e : PyData} (ha : a ≠ "name") (hb : b ≠ "name") : knownI [a, b] [d, e] = [] := by
  rw [known_no ha, known_no hb, known_nil]
theorem known_one {a : Str} {d : PyData} (ha : a ≠ "name") : knownI [a] [d] = [] := by
  rw [known_no ha, known_nil]
theorem shl_tail : ∀ s ∈ SHL, ∀ kd ∈ s.2.tail, kd ≠ "layer" := by decide +kernel
theorem kindsL_of {l : Nat} {ks : List Str} {items : List PyData} (h : Paired KindOk ks items) (h1 : ks.head? = some "layer" → ∃ d, items.head? = some d ∧ layD l d = true) (ht : ∀ kd ∈ ks.tail, kd ≠ "layer") : Paired (KindL l) ks items := by
  have rest : ∀ {ks : List Str} {items : List PyData}, Paired KindOk ks items → (∀ kd ∈ ks, kd ≠ "layer") → Paired (KindL l) ks items := fun {ks items} h hn => by
    induction h with
    | nil => exact .nil
    | cons a t ih => exact .cons (.old a fun e => absurd e (hn _ List.mem_cons_self)) (ih fun kd hk => hn kd (List.mem_cons_of_mem _ hk))
  cases h with
  | nil => exact .nil
  | cons a t =>
    refine .cons (.old a fun e => ?_) (rest t ht)
    obtain ⟨d, hd, hl⟩ := h1 (by rw [e]; rfl)
    cases hd
    exact hl
/-- a leaf's word and items, for l layers and the names zs -/
structure LfQ (l : Nat) (zs : List Str) (u : Str) (items : List PyData) : Prop where
  ks : ∃ ks, (u, ks) ∈ SHL ∧ Paired (KindL l) ks items ∧ ∀ z ∈ knownI ks items, z ∈ zs
  ride : u = "ride" → l = 2
  same : u = "same" → ∃ y z : Str, items = [.str y, .str z] ∧ y ≠ z ∧ z ∈ zs
  forget : u = "forget" → ∃ z : Str, items = [.str z] ∧ z ∈ zs
structure LeafQ (l : Nat) (zs : List Str) (fr : Str) (d : PyData) : Prop where
  ex : ∃ (u : Str) (items : List PyData), d = .tuple (.str u :: items) ∧ LfQ l zs u items ∧ (u = "place" → ∃ r, items = .str fr :: r)
def hdB (u : Str) : Bool := decide (u ≠ "forget") && (decide (u ≠ "same") && decide (u ≠ "place"))
/-- a leaf that keeps the names -/
structure StillQ (l : Nat) (zs : List Str) (d : PyData) : Prop where
  ex : ∃ (u : Str) (items : List PyData), d = .tuple (.str u :: items) ∧ LfQ l zs u items ∧ hdB u = true
/-- steps that keep the names, n about one another in each -/
def StQ (l : Nat) (zs : List Str) : Nat → PyData → Prop
  | 0, d => StillQ l zs d
  | n + 1, d => StillQ l zs d ∨ (∃ (as ds es : List PyData), d = .tuple (.str "if" :: (as ++ [.tuple ds, .tuple es])) ∧ as.length = 4 ∧ Paired (KindL l) askK as ∧ (∀ z ∈ knownI askK as, z ∈ zs) ∧ (∀ e ∈ ds, StQ l zs n e) ∧ (∀ e ∈ es, StQ l zs n e)) ∨
      ∃ (k : Int) (ds : List PyData), d = .tuple [.str "repeat", .int k, .tuple ds] ∧ 1 ≤ k ∧ k ≤ 3 ∧ ∀ e ∈ ds, StQ l zs n e
theorem stq_still {l : Nat} {zs : List Str} {n : Nat} {d : PyData} (h : StillQ l zs d) : StQ l zs n d := by
  cases n with
  | zero => exact h
  | succ n => exact .inl h
theorem stq_up {l : Nat} {zs : List Str} : ∀ {n : Nat} {d : PyData}, StQ l zs n d → StQ l zs (n + 1) d
  | 0, _, h => .inl h
  | n + 1, d, h => by
    rcases h with h | ⟨as, ds, es, e, l4, ha, hk, h1, h2⟩ | ⟨k, ds, e, k1, k3, h1⟩
    · exact .inl h
    · exact .inr (.inl ⟨as, ds, es, e, l4, ha, hk, fun x hx => stq_up (h1 x hx), fun x hx => stq_up (h2 x hx)⟩)
    · exact .inr (.inr ⟨k, ds, e, k1, k3, fun x hx => stq_up (h1 x hx)⟩)
theorem still_leaf {l : Nat} {zs : List Str} {fr : Str} {d : PyData} (h : StillQ l zs d) : LeafQ l zs fr d := by
  obtain ⟨u, items, e, q, hu⟩ := h.ex
  refine ⟨u, items, e, q, fun z => ?_⟩
  subst z
  exact absurd hu (by decide +kernel)
theorem lay_two {z : Str} (h : layB z) (l : Nat) (hl : l = 1 ∨ l = 2) (h1 : l = 1 → z = "foot") : layD l (.str z) = true := by
  rcases hl with rfl | rfl
  · rw [h1 rfl]
    decide +kernel
  · rcases h with rfl | rfl <;> decide +kernel
/-- a leaf that keeps the names, by its kinds -/
theorem still_of {l : Nat} {zs : List Str} {u : Str} {ks : List Str} {items : List PyData} (hm : (u, ks) ∈ SHL) (hu : hdB u = true) (hk : Paired KindOk ks items) (h1 : ks.head? = some "layer" → ∃ d, items.head? = some d ∧ layD l d = true) (hr : u = "ride" → l = 2) (kn : ∀ z ∈ knownI ks items, z ∈ zs) : StillQ l zs (.tuple (.str u :: items)) := by
  have hu0 := hu
  unfold hdB at hu
  simp only [Bool.and_eq_true, decide_eq_true_eq] at hu
  obtain ⟨h5, h6, h7⟩ := hu
  exact ⟨u, items, rfl, ⟨⟨ks, hm, kindsL_of hk h1 (shl_tail _ hm), kn⟩, hr, fun e => absurd e h6, fun e => absurd e h5⟩, hu0⟩
theorem leafQ_forget {l : Nat} {zs : List Str} {fr z : Str} (h : nmB z) (m : z ∈ zs) : LeafQ l zs fr (.tuple [.str "forget", .str z]) :=
  ⟨"forget", [.str z], rfl, ⟨⟨["name"], by decide +kernel, .cons (.old (.name h) fun e => absurd e (by decide +kernel)) .nil, fun y hy => by
    rw [known_yes, known_nil] at hy
    rw [List.mem_singleton.mp hy]
    exact m⟩, fun e => absurd e (by decide +kernel), fun e => absurd e (by decide +kernel), fun _ => ⟨z, rfl, m⟩⟩, fun e => absurd e (by decide +kernel)⟩
theorem leafQ_same {l : Nat} {zs : List Str} {fr y z : Str} (g : nmB y) (h : nmB z) (n : y ≠ z) (m1 : y ∈ zs) (m2 : z ∈ zs) : LeafQ l zs fr (.tuple [.str "same", .str y, .str z]) :=
  ⟨"same", [.str y, .str z], rfl, ⟨⟨["name", "name"], by decide +kernel, .cons (.old (.name g) fun e => absurd e (by decide +kernel)) (.cons (.old (.name h) fun e => absurd e (by decide +kernel)) .nil), fun x hx => by
    rw [known_yes, known_yes, known_nil] at hx
    simp only [List.mem_cons, List.not_mem_nil, or_false] at hx
    rcases hx with rfl | rfl
    · exact m1
    · exact m2⟩, fun e => absurd e (by decide +kernel), fun _ => ⟨y, z, rfl, n, m2⟩, fun e => absurd e (by decide +kernel)⟩, fun e => absurd e (by decide +kernel)⟩
theorem leafQ_place {l : Nat} {zs : List Str} {z y : Str} {d e : PyData} (h : nmB z) (g : nmB y) (hd : LenD d) (he : LenD e) (m : y ∈ zs) : LeafQ l zs z (.tuple [.str "place", .str z, .str y, d, e]) :=
  ⟨"place", [.str z, .str y, d, e], rfl, ⟨⟨["new", "name", "length", "length"], by decide +kernel, .cons (.old (.new h) fun e => absurd e (by decide +kernel)) (.cons (.old (.name g) fun e => absurd e (by decide +kernel)) (.cons (.old (.length hd) fun e => absurd e (by decide +kernel)) (.cons (.old (.length he) fun e => absurd e (by decide +kernel)) .nil))), fun x hx => by
    rw [known_place] at hx
    rw [List.mem_singleton.mp hx]
    exact m⟩, fun e => absurd e (by decide +kernel), fun e => absurd e (by decide +kernel), fun e => absurd e (by decide +kernel)⟩, fun _ => ⟨_, rfl⟩⟩
theorem ask_mem {zs : List Str} {a g : PyData} {y z : Str} (m1 : y ∈ zs) (m2 : z ∈ zs) : ∀ x ∈ knownI ["layer", "name", "name", "length"] [a, .str y, .str z, g], x ∈ zs := fun x hx => by
  rw [known_ask] at hx
  simp only [List.mem_cons, List.not_mem_nil, or_false] at hx
  rcases hx with rfl | rfl
  · exact m1
  · exact m2
end Lw

set_option maxRecDepth 100000
set_option linter.unusedVariables false
namespace Lw
open PySem PySem.Spec PyProof.Rows L2 VG
/-! what steps make of names; how many they are -/
def innerD : PyData → List PyData
  | .tuple [.str u, .int _, .tuple d1] => if u = "repeat" then d1 else []
  | .tuple [.str u, _, _, _, _, .tuple d1, .tuple d2] => if u = "if" then d1 ++ d2 else []
  | _ => []
def timesD : PyData → Int
  | .tuple [.str u, .int k, _] => if u = "repeat" then k else 1
  | _ => 1
/-- how many steps are done, the inner ones as often as they are done -/
def cntD : Nat → List PyData → Int
  | 0, _ => 0
  | n + 1, ds => (ds.map fun d => 1 + timesD d * cntD n (innerD d)).sum
theorem inner_leaf {u : Str} {items : List PyData} (h1 : u ≠ "if") (h2 : u ≠ "repeat") : innerD (.tuple (.str u :: items)) = [] := by
  unfold innerD
  split
  · rename_i u' k d1 heq
    injection heq with heq
    injection heq with e1 e2
    injection e1 with e1
    rw [← e1, if_neg h2]
  · rename_i u' a b c d d1 d2 heq
    injection heq with heq
    injection heq with e1 e2
    injection e1 with e1
    rw [← e1, if_neg h1]
  · rfl
theorem inner_if {a1 a2 a3 a4 : PyData} {d1 d2 : List PyData} : innerD (.tuple [.str "if", a1, a2, a3, a4, .tuple d1, .tuple d2]) = d1 ++ d2 := by
  unfold innerD
  split
  · rename_i heq
    simp at heq
  · rename_i u' a b c d d1' d2' heq
    simp at heq
    obtain ⟨e0, _, _, _, _, e1, e2⟩ := heq
    rw [← e0, ← e1, ← e2, if_pos rfl]
  · rename_i h1 h2
    exact absurd rfl (h2 _ _ _ _ _ _ _)
def wordD : PyData → Str
  | .tuple (.str u :: _) => u
  | _ => ""
/-- how many steps of the word z are done -/
def cwD (z : Str) : Nat → List PyData → Int
  | 0, _ => 0
  | n + 1, ds => ((ds.filter fun d => decide (wordD d = z)).length : Nat) + (ds.map fun d => timesD d * cwD z n (innerD d)).sum
/-- the names behind a step -/
def effD (zs : List Str) : PyData → List Str
  | .tuple (.str u :: items) => if u = "place" then zs ++ [strD (items.headD .none)] else if u = "same" ∨ u = "forget" then zs.filter (fun z => decide (z ≠ strD (items.getLastD .none))) else zs
  | _ => zs
def endsD (zs : List Str) (ds : List PyData) : List Str := ds.foldl effD zs
theorem eff_eq {zs : List Str} {u : Str} {items : List PyData} : effD zs (.tuple (.str u :: items)) = if u = "place" then zs ++ [strD (items.headD .none)] else if u = "same" ∨ u = "forget" then zs.filter (fun z => decide (z ≠ strD (items.getLastD .none))) else zs := rfl
theorem eff_perm {zs ys : List Str} (h : zs.Perm ys) (d : PyData) : (effD zs d).Perm (effD ys d) := by
  unfold effD
  split
  · split
    · exact h.append_right _
    · split
      · exact h.filter _
      · exact h
  · exact h
theorem ends_perm {ds : List PyData} : ∀ {zs ys : List Str}, zs.Perm ys → (endsD zs ds).Perm (endsD ys ds) := by
  induction ds with
  | nil => exact fun h => h
  | cons d ds ih => exact fun h => ih (eff_perm h d)
theorem eff_sub {zs ys : List Str} (h : ∀ z ∈ zs, z ∈ ys) (d : PyData) : ∀ z ∈ effD zs d, z ∈ effD ys d := by
  unfold effD
  intro z hz
  split at hz
  · split at hz
    · rename_i u items hu
      rw [if_pos hu]
      rcases List.mem_append.mp hz with hz | hz
      · exact List.mem_append_left _ (h z hz)
      · exact List.mem_append_right _ hz
    · rename_i u items hu
      rw [if_neg hu]
      split at hz
      · rename_i hv
        rw [if_pos hv]
        obtain ⟨h1, h2⟩ := List.mem_filter.mp hz
        exact List.mem_filter.mpr ⟨h z h1, h2⟩
      · rename_i hv
        rw [if_neg hv]
        exact h z hz
  · exact h z hz
theorem eff_hd {zs : List Str} {u : Str} {items : List PyData} (h : hdB u = true) : effD zs (.tuple (.str u :: items)) = zs := by
  unfold hdB at h
  simp only [Bool.and_eq_true, decide_eq_true_eq] at h
  obtain ⟨h1, h2, h3⟩ := h
  rw [eff_eq, if_neg h3, if_neg (fun e => e.elim h2 h1)]
theorem eff_still {l n : Nat} {zs ys : List Str} {d : PyData} (h : StQ l ys n d) : effD zs d = zs := by
  have st : StillQ l ys d → effD zs d = zs := fun h => by
    obtain ⟨u, items, rfl, _, hu⟩ := h.ex
    exact eff_hd hu
  cases n with
  | zero => exact st h
  | succ n =>
    rcases h with h | ⟨as, ds, es, rfl, _⟩ | ⟨k, ds, rfl, _⟩
    · exact st h
    · exact eff_hd (by decide +kernel)
    · exact eff_hd (by decide +kernel)
abbrev Srt (zs : List Str) : Prop := zs.Pairwise (fun a b => a.cps.toList ≤ b.cps.toList)
theorem rising_pw : ∀ (l : List Str) (p : Str), risingS p l = true → (p :: l).Pairwise (fun a b => a.cps.toList ≤ b.cps.toList)
  | [], p, _ => List.pairwise_singleton _ _
  | x :: r, p, h => by
    have h : (!ltCps x.cps.toList p.cps.toList && risingS x r) = true := h
    obtain ⟨h1, h2⟩ := Bool.and_eq_true_iff.mp h
    have ih := rising_pw r x h2
    rw [ltCps_eq] at h1
    have px : p.cps.toList ≤ x.cps.toList := by
      have h1 : ¬ x.cps.toList < p.cps.toList := by simpa using h1
      exact List.not_lt.mp h1
    refine List.pairwise_cons.mpr ⟨fun y hy => ?_, ih⟩
    rcases List.mem_cons.mp hy with rfl | hy
    · exact px
    · exact List.le_trans px (List.rel_of_pairwise_cons ih hy)
theorem srt_of {l : List Str} (h : sortedS l = true) : Srt l := by
  cases l with
  | nil => exact .nil
  | cons p r => exact rising_pw r p h
theorem str_same {x y : Str} (h : x.cps.toList = y.cps.toList) : x = y := TL.ext_tl h
theorem srt_one : ∀ {zs ys : List Str}, Srt zs → Srt ys → zs.Perm ys → zs = ys
  | [], _, _, _, p => (List.Perm.nil_eq p)
  | a :: t, [], _, _, p => by cases List.Perm.nil_eq p.symm
  | a :: t, b :: r, h, g, p => by
    obtain ⟨h1, h2⟩ := List.pairwise_cons.mp h
    obtain ⟨g1, g2⟩ := List.pairwise_cons.mp g
    have e : a = b := by
      have m1 := p.mem_iff.mp (List.mem_cons_self (a := a) (l := t))
      have m2 := p.mem_iff.mpr (List.mem_cons_self (a := b) (l := r))
      rcases List.mem_cons.mp m1 with e | m1
      · exact e
      · rcases List.mem_cons.mp m2 with e | m2
        · exact e.symm
        · exact str_same (List.le_antisymm (h1 _ m2) (g1 _ m1))
    subst e
    rw [srt_one h2 g2 (List.Perm.cons_inv p)]
theorem LfQ.mono {l : Nat} {zs ys : List Str} {u : Str} {items : List PyData} (s : ∀ z ∈ zs, z ∈ ys) (h : LfQ l zs u items) : LfQ l ys u items := by
  obtain ⟨ks, h1, h2, h3⟩ := h.ks
  refine ⟨⟨ks, h1, h2, fun z hz => s z (h3 z hz)⟩, h.ride, fun e => ?_, fun e => ?_⟩
  · obtain ⟨y, z, e1, e2, m⟩ := h.same e
    exact ⟨y, z, e1, e2, s z m⟩
  · obtain ⟨z, e1, m⟩ := h.forget e
    exact ⟨z, e1, s z m⟩
theorem LeafQ.mono {l : Nat} {zs ys : List Str} {fr : Str} {d : PyData} (s : ∀ z ∈ zs, z ∈ ys) (h : LeafQ l zs fr d) : LeafQ l ys fr d := by
  obtain ⟨u, items, e, q, p⟩ := h.ex
  exact ⟨u, items, e, q.mono s, p⟩
theorem StillQ.mono {l : Nat} {zs ys : List Str} {d : PyData} (s : ∀ z ∈ zs, z ∈ ys) (h : StillQ l zs d) : StillQ l ys d := by
  obtain ⟨u, items, e, q, p⟩ := h.ex
  exact ⟨u, items, e, q.mono s, p⟩
theorem stq_mono {l : Nat} {zs ys : List Str} (s : ∀ z ∈ zs, z ∈ ys) : ∀ {n : Nat} {d : PyData}, StQ l zs n d → StQ l ys n d
  | 0, _, h => StillQ.mono s h
  | n + 1, _, h => by
    rcases h with h | ⟨as, ds, es, e, l4, ha, hk, h1, h2⟩ | ⟨k, ds, e, k1, k3, h1⟩
    · exact .inl (h.mono s)
    · exact .inr (.inl ⟨as, ds, es, e, l4, ha, fun z hz => s z (hk z hz), fun x hx => stq_mono s (h1 x hx), fun x hx => stq_mono s (h2 x hx)⟩)
    · exact .inr (.inr ⟨k, ds, e, k1, k3, fun x hx => stq_mono s (h1 x hx)⟩)
/-- a leaf that may be done with the names zs -/
def LfLeaf (l : Nat) (zs : List Str) (d : PyData) : Prop := ∃ fr, LeafQ l zs fr d ∧ (wordD d = "place" → fr ∉ zs ∧ zs.length ≤ 4)
def StepQ (l : Nat) (zs : List Str) (d : PyData) : Prop := LfLeaf l zs d ∨ StQ l zs 2 d
def FlowOk (l : Nat) : List Str → List PyData → Prop
  | _, [] => True
  | zs, d :: ds => StepQ l zs d ∧ FlowOk l (effD zs d) ds
theorem flow_app {l : Nat} {es : List PyData} : ∀ {ds : List PyData} {zs : List Str}, FlowOk l zs ds → FlowOk l (endsD zs ds) es → FlowOk l zs (ds ++ es)
  | [], _, _, h => h
  | d :: ds, zs, h, g => ⟨h.1, flow_app (ds := ds) h.2 g⟩
theorem ends_app {ds es : List PyData} {zs : List Str} : endsD zs (ds ++ es) = endsD (endsD zs ds) es := by
  unfold endsD
  rw [List.foldl_append]
theorem StepQ.perm {l : Nat} {zs ys : List Str} {d : PyData} (p : zs.Perm ys) (h : StepQ l zs d) : StepQ l ys d := by
  rcases h with ⟨fr, h, g⟩ | h
  · exact .inl ⟨fr, h.mono fun z hz => p.mem_iff.mp hz, fun e => ⟨fun m => (g e).1 (p.mem_iff.mpr m), by rw [← p.length_eq]; exact (g e).2⟩⟩
  · exact .inr (stq_mono (fun z hz => p.mem_iff.mp hz) h)
theorem flow_perm {l : Nat} : ∀ {ds : List PyData} {zs ys : List Str}, zs.Perm ys → FlowOk l zs ds → FlowOk l ys ds
  | [], _, _, _, _ => trivial
  | d :: ds, _, _, p, h => ⟨h.1.perm p, flow_perm (eff_perm p d) h.2⟩
/-- steps without place stand with more names, too -/
theorem flow_wide {l : Nat} : ∀ {ds : List PyData} {zs ys : List Str}, (∀ z ∈ zs, z ∈ ys) → (∀ d ∈ ds, wordD d ≠ "place") → FlowOk l zs ds → FlowOk l ys ds
  | [], _, _, _, _, _ => trivial
  | d :: ds, _, _, s, n, h => ⟨by
    rcases h.1 with ⟨fr, h, g⟩ | h
    · exact .inl ⟨fr, h.mono s, fun e => absurd e (n d List.mem_cons_self)⟩
    · exact .inr (stq_mono s h), flow_wide (eff_sub s d) (fun x hx => n x (List.mem_cons_of_mem _ hx)) h.2⟩
/-- bounds of what steps are, done, of tests, of places -/
structure Cost (c t p : Int) (ds : List PyData) : Prop where
  c : ∀ n, cntD n ds ≤ c
  t : ∀ n, cwD "if" n ds ≤ t
  p : ∀ n, cwD "place" n ds ≤ p
theorem Cost.pos {c t p : Int} {ds : List PyData} (h : Cost c t p ds) : 0 ≤ c ∧ 0 ≤ t ∧ 0 ≤ p := ⟨h.c 0, h.t 0, h.p 0⟩
theorem cnt_app (n : Nat) (ds es : List PyData) : cntD n (ds ++ es) = cntD n ds + cntD n es := by
  cases n with
  | zero => rfl
  | succ n => simp [cntD]
theorem cw_app (z : Str) (n : Nat) (ds es : List PyData) : cwD z n (ds ++ es) = cwD z n ds + cwD z n es := by
  cases n with
  | zero => rfl
  | succ n =>
    simp only [cwD, List.filter_append, List.length_append, List.map_append, List.sum_append]
    omega
theorem cost_nil : Cost 0 0 0 [] := ⟨fun n => by cases n <;> simp [cntD], fun n => by cases n <;> simp [cwD], fun n => by cases n <;> simp [cwD]⟩
theorem Cost.app {a b c a' b' c' : Int} {ds es : List PyData} (h : Cost a b c ds) (g : Cost a' b' c' es) : Cost (a + a') (b + b') (c + c') (ds ++ es) :=
  ⟨fun n => by rw [cnt_app]; exact Int.add_le_add (h.c n) (g.c n), fun n => by rw [cw_app]; exact Int.add_le_add (h.t n) (g.t n), fun n => by rw [cw_app]; exact Int.add_le_add (h.p n) (g.p n)⟩
theorem Cost.up {a b c a' b' c' : Int} {ds : List PyData} (h : Cost a b c ds) (h1 : a ≤ a') (h2 : b ≤ b') (h3 : c ≤ c') : Cost a' b' c' ds := ⟨fun n => Int.le_trans (h.c n) h1, fun n => Int.le_trans (h.t n) h2, fun n => Int.le_trans (h.p n) h3⟩
theorem mul_up {k m a b : Int} (h0 : 0 ≤ k) (h1 : k ≤ m) (h2 : a ≤ b) (hb : 0 ≤ b) : k * a ≤ m * b := Int.le_trans (Int.mul_le_mul_of_nonneg_left h2 h0) (Int.mul_le_mul_of_nonneg_right h1 hb)
theorem cost_step {a t p k : Int} {d : PyData} (h : Cost a t p (innerD d)) (k0 : 0 ≤ timesD d) (k1 : timesD d ≤ k) : Cost (1 + k * a) ((if wordD d = "if" then 1 else 0) + k * t) ((if wordD d = "place" then 1 else 0) + k * p) [d] := by
  obtain ⟨pa, pt, pp⟩ := h.pos
  have kk : 0 ≤ k := Int.le_trans k0 k1
  have z1 : 0 ≤ k * a := Int.mul_nonneg kk pa
  have z2 : 0 ≤ k * t := Int.mul_nonneg kk pt
  have z3 : 0 ≤ k * p := Int.mul_nonneg kk pp
  have fl : ∀ z : Str, (([d].filter fun d => decide (wordD d = z)).length : Int) = if wordD d = z then 1 else 0 := fun z => by
    by_cases e : wordD d = z <;> simp [e]
  refine ⟨fun n => ?_, fun n => ?_, fun n => ?_⟩
  · cases n with
    | zero => simp [cntD]; omega
    | succ n =>
      have := mul_up k0 k1 (h.c n) pa
      simp [cntD]
      omega
  · cases n with
    | zero =>
      show (0 : Int) ≤ _
      split <;> omega
    | succ n =>
      have := mul_up k0 k1 (h.t n) pt
      show (([d].filter fun d => decide (wordD d = "if")).length : Int) + ([d].map fun d => timesD d * cwD "if" n (innerD d)).sum ≤ _
      rw [fl, List.map_singleton, List.sum_singleton]
      omega
  · cases n with
    | zero =>
      show (0 : Int) ≤ _
      split <;> omega
    | succ n =>
      have := mul_up k0 k1 (h.p n) pp
      show (([d].filter fun d => decide (wordD d = "place")).length : Int) + ([d].map fun d => timesD d * cwD "place" n (innerD d)).sum ≤ _
      rw [fl, List.map_singleton, List.sum_singleton]
      omega
theorem lf_word {l : Nat} {zs : List Str} {u : Str} {items : List PyData} (h : LfQ l zs u items) : u ≠ "if" ∧ u ≠ "repeat" := by
  obtain ⟨ks, h1, _⟩ := h.ks
  exact (show ∀ s ∈ SHL, s.1 ≠ "if" ∧ s.1 ≠ "repeat" by decide +kernel) _ h1
theorem times_leaf {u : Str} {items : List PyData} (h : u ≠ "repeat") : timesD (.tuple (.str u :: items)) = 1 := by
  unfold timesD
  split
  · rename_i u' k c heq
    injection heq with heq
    injection heq with e1 e2
    injection e1 with e1
    rw [← e1, if_neg h]
  · rfl
theorem times_rep {k : Int} {d : PyData} : timesD (.tuple [.str "repeat", .int k, d]) = k := by
  show (if ("repeat" : Str) = "repeat" then k else 1) = k
  rw [if_pos rfl]
theorem inner_rep {k : Int} {ds : List PyData} : innerD (.tuple [.str "repeat", .int k, .tuple ds]) = ds := by
  show (if ("repeat" : Str) = "repeat" then ds else []) = ds
  rw [if_pos rfl]
theorem cost_lf {l : Nat} {zs : List Str} {u : Str} {items : List PyData} (h : LfQ l zs u items) : Cost 1 0 (if u = "place" then 1 else 0) [.tuple (.str u :: items)] := by
  obtain ⟨h1, h2⟩ := lf_word h
  have c := cost_step (k := 1) (d := .tuple (.str u :: items)) (by rw [inner_leaf h1 h2]; exact cost_nil) (by rw [times_leaf h2]; decide) (by rw [times_leaf h2]; exact Int.le_refl _)
  have e : wordD (.tuple (.str u :: items)) = u := rfl
  rw [e, if_neg h1] at c
  exact c.up (by decide) (by decide) (by split <;> decide)
theorem cost_leaf {l : Nat} {zs : List Str} {fr : Str} {d : PyData} (h : LeafQ l zs fr d) : Cost 1 0 1 [d] := by
  obtain ⟨u, items, rfl, q, _⟩ := h.ex
  exact (cost_lf q).up (by decide) (by decide) (by split <;> decide)
theorem cost_still {l : Nat} {zs : List Str} {d : PyData} (h : StillQ l zs d) : Cost 1 0 0 [d] := by
  obtain ⟨u, items, rfl, q, hu⟩ := h.ex
  have n : u ≠ "place" := fun e => by
    subst e
    exact absurd hu (by decide +kernel)
  have c := cost_lf q
  rw [if_neg n] at c
  exact c
theorem cost_stills {l : Nat} {zs : List Str} : ∀ {ds : List PyData}, (∀ d ∈ ds, StillQ l zs d) → Cost ds.length 0 0 ds
  | [], _ => cost_nil
  | d :: ds, h => by
    have c := (cost_still (h d List.mem_cons_self)).app (cost_stills (ds := ds) fun x hx => h x (List.mem_cons_of_mem _ hx))
    exact c.up (by rw [List.length_cons]; omega) (by decide) (by decide)
theorem cost_rep {a t p k m : Int} {ds : List PyData} (h : Cost a t p ds) (k1 : 1 ≤ k) (km : k ≤ m) : Cost (1 + m * a) (m * t) (m * p) [.tuple [.str "repeat", .int k, .tuple ds]] := by
  have c := cost_step (k := m) (d := .tuple [.str "repeat", .int k, .tuple ds]) (by rw [inner_rep]; exact h) (by rw [times_rep]; omega) (by rw [times_rep]; exact km)
  have e : wordD (.tuple [.str "repeat", .int k, .tuple ds]) = "repeat" := rfl
  rw [e, if_neg (by decide +kernel), if_neg (by decide +kernel)] at c
  exact c.up (Int.le_refl _) (by omega) (by omega)
theorem cost_if {a t p a' t' p' : Int} {as ds es : List PyData} (l4 : as.length = 4) (h : Cost a t p ds) (g : Cost a' t' p' es) : Cost (1 + (a + a')) (1 + (t + t')) (p + p') [.tuple (.str "if" :: (as ++ [.tuple ds, .tuple es]))] := by
  obtain ⟨a1, a2, a3, a4, rfl⟩ : ∃ a1 a2 a3 a4, as = [a1, a2, a3, a4] := by
    match as, l4 with
    | [a1, a2, a3, a4], _ => exact ⟨a1, a2, a3, a4, rfl⟩
  have ei : innerD (.tuple (.str "if" :: ([a1, a2, a3, a4] ++ [.tuple ds, .tuple es]))) = ds ++ es := inner_if
  have et : timesD (.tuple (.str "if" :: ([a1, a2, a3, a4] ++ [.tuple ds, .tuple es]))) = 1 := times_leaf (by decide +kernel)
  have c := cost_step (k := 1) (d := .tuple (.str "if" :: ([a1, a2, a3, a4] ++ [.tuple ds, .tuple es]))) (by rw [ei]; exact h.app g) (by rw [et]; decide) (by rw [et]; exact Int.le_refl _)
  have e : wordD (.tuple (.str "if" :: ([a1, a2, a3, a4] ++ [.tuple ds, .tuple es]))) = "if" := rfl
  rw [e, if_pos rfl, if_neg (by decide +kernel)] at c
  exact c.up (by omega) (by omega) (by omega)
theorem eff_mem {l : Nat} {zs : List Str} {fr : Str} {d : PyData} (h : LeafQ l zs fr d) {z : Str} (hz : z ∈ effD zs d) : z ∈ zs ∨ z = fr := by
  obtain ⟨u, items, rfl, q, p⟩ := h.ex
  rw [eff_eq] at hz
  split at hz
  · rename_i e
    obtain ⟨r, rfl⟩ := p e
    rcases List.mem_append.mp hz with hz | hz
    · exact .inl hz
    · exact .inr (List.mem_singleton.mp hz)
  · split at hz
    · exact .inl (List.mem_filter.mp hz).1
    · exact .inl hz
theorem leaf_step {l : Nat} {hs ys : List Str} {fr : Str} {d : PyData} (h : LeafQ l hs fr d) (p : hs.Perm ys) (nf : fr ∉ hs) (l4 : hs.length ≤ 4) : StepQ l ys d :=
  .inl ⟨fr, h.mono fun z hz => p.mem_iff.mp hz, fun _ => ⟨fun m => nf (p.mem_iff.mpr m), by rw [← p.length_eq]; exact l4⟩⟩
theorem flow_snoc {l : Nat} {zs : List Str} {ds : List PyData} {d : PyData} (h : FlowOk l zs ds) (g : StepQ l (endsD zs ds) d) : FlowOk l zs (ds ++ [d]) := flow_app h ⟨g, trivial⟩
theorem ends_snoc {zs : List Str} {ds : List PyData} {d : PyData} : endsD zs (ds ++ [d]) = effD (endsD zs ds) d := ends_app
end Lw

set_option maxRecDepth 100000
set_option linter.unusedVariables false
namespace Lw
open PySem PySem.Spec PyProof.Rows L2 VG
/-! steps, at most 12 in each part, n about one another in each -/
def LeafD (d : PyData) : Prop := ∃ (u : Str) (ks : List Str) (items : List PyData), (u, ks) ∈ SHL ∧ d = .tuple (.str u :: items) ∧ Paired KindOk ks items
def IfD (R : List PyData → Prop) (d : PyData) : Prop := ∃ (as d1 d2 : List PyData), Paired KindOk askK as ∧ d = .tuple (.str "if" :: (as ++ [.tuple d1, .tuple d2])) ∧ R d1 ∧ R d2
def RepD (R : List PyData → Prop) (d : PyData) : Prop := ∃ (k : Int) (d1 : List PyData), d = .tuple [.str "repeat", .int k, .tuple d1] ∧ 1 ≤ k ∧ k ≤ 3 ∧ R d1
def StD : Nat → PyData → Prop
  | 0, d => LeafD d
  | n + 1, d => LeafD d ∨ IfD (fun ds => ds.length ≤ 12 ∧ ∀ e ∈ ds, StD n e) d ∨ RepD (fun ds => ds.length ≤ 12 ∧ ∀ e ∈ ds, StD n e) d
theorem leafD_w {R : List PyData → List Str → Prop} {d : PyData} (h : LeafD d) : ∃ ws, StW R d ws := by
  obtain ⟨u, ks, items, hm, rfl, hk⟩ := h
  obtain ⟨a, b, c, l⟩ := shl_words _ hm
  have l : ks.length ≤ 4 := l
  have l1 := paired_len2 hk
  exact ⟨_, .inl ⟨u, items, rfl, rfl, a, b, c, by omega, kinds_atoms hk⟩⟩
theorem lw_of {R : PyData → List Str → Prop} {m : Nat} {ds : List PyData} (l : ds.length ≤ m) (h : ∀ d ∈ ds, ∃ ws, R d ws) : ∃ ws, LW m R ds ws := by
  have : ∃ wss, Paired R ds wss := by
    clear l
    induction ds with
    | nil => exact ⟨[], .nil⟩
    | cons d t ih =>
      obtain ⟨ws, hw⟩ := h d List.mem_cons_self
      obtain ⟨wss, hs⟩ := ih fun x hx => h x (List.mem_cons_of_mem _ hx)
      exact ⟨ws :: wss, .cons hw hs⟩
  obtain ⟨wss, hs⟩ := this
  exact ⟨_, l, wss, hs, rfl⟩
theorem std_w : ∀ (n : Nat) {d : PyData}, StD n d → ∃ ws, SW n d ws
  | 0, d, h => leafD_w h
  | n + 1, d, h => by
    have part : ∀ {ds : List PyData}, (ds.length ≤ 12 ∧ ∀ e ∈ ds, StD n e) → ∃ ws, LW 12 (SW n) ds ws := fun {ds} h => lw_of h.1 fun d hd => std_w n (h.2 d hd)
    rcases h with h | ⟨as, d1, d2, ha, rfl, r1, r2⟩ | ⟨k, d1, rfl, k1, k3, r1⟩
    · exact leafD_w h
    · obtain ⟨w1, h1⟩ := part r1
      obtain ⟨w2, h2⟩ := part r2
      have l1 : askK.length = as.length := paired_len2 ha
      exact ⟨_, .inr (.inl ⟨as, d1, d2, w1, w2, l1.symm, rfl, kinds_atoms ha, h1, h2, rfl⟩)⟩
    · obtain ⟨w1, h1⟩ := part r1
      exact ⟨_, .inr (.inr ⟨k, d1, w1, rfl, by omega, by omega, h1, rfl⟩)⟩
theorem stds_w {n : Nat} {ds : List PyData} (l : ds.length ≤ 16) (h : ∀ d ∈ ds, StD n d) : ∃ ws, LW 16 (SW n) ds ws := lw_of l fun d hd => std_w n (h d hd)
theorem StD.up : ∀ {n : Nat} {d : PyData}, StD n d → StD (n + 1) d
  | 0, d, h => .inl h
  | n + 1, d, h => by
    rcases h with h | ⟨as, d1, d2, ha, rfl, r1, r2⟩ | ⟨k, d1, rfl, k1, k3, r1⟩
    · exact .inl h
    · exact .inr (.inl ⟨as, d1, d2, ha, rfl, ⟨r1.1, fun e he => StD.up (r1.2 e he)⟩, ⟨r2.1, fun e he => StD.up (r2.2 e he)⟩⟩)
    · exact .inr (.inr ⟨k, d1, rfl, k1, k3, r1.1, fun e he => StD.up (r1.2 e he)⟩)
theorem all_nil {α : Type} {p : α → Prop} : ∀ e ∈ ([] : List α), p e := fun _ h => by cases h
theorem inV_mem {z : Str} {zs : List Str} : inV (.str z) (tVs zs) = decide (z ∈ zs) := by
  unfold inV
  rw [Bool.eq_iff_iff, List.any_eq_true, decide_eq_true_eq]
  constructor
  · rintro ⟨v, hv, e⟩
    obtain ⟨y, hy, rfl⟩ := List.mem_map.mp hv
    have e : (y == z) = true := e
    rw [← eq_of_beq e]
    exact hy
  · intro h
    exact ⟨.str z, List.mem_map.mpr ⟨z, h, rfl⟩, (beq_self_eq_true z : (z == z) = true)⟩
theorem flat_strs (ws : List Str) : (tVs ws).all flatV = true := by
  rw [List.all_eq_true]
  intro v hv
  obtain ⟨z, _, rfl⟩ := List.mem_map.mp hv
  rfl
end Lw

set_option maxRecDepth 100000
set_option linter.unusedVariables false
namespace Lw
open PySem PySem.Spec PyProof.Rows L2 VG
/-! ### steps: what stands in them, how often -/
/-- the three forms of a step -/
inductive StepOf (n : Nat) (d : PyData) : Prop
  | leaf (u : Str) (items : List PyData) (e : d = .tuple (.str u :: items)) (h1 : u ≠ "if") (h2 : u ≠ "repeat")
  | iff (a1 a2 a3 a4 : PyData) (d1 d2 : List PyData) (e : d = .tuple [.str "if", a1, a2, a3, a4, .tuple d1, .tuple d2]) (m : ∃ m, n = m + 1 ∧ (∀ x ∈ d1, StD m x) ∧ (∀ x ∈ d2, StD m x)) (l1 : d1.length ≤ 12) (l2 : d2.length ≤ 12)
  | rep (k : Int) (d1 : List PyData) (e : d = .tuple [.str "repeat", .int k, .tuple d1]) (k1 : 1 ≤ k) (k3 : k ≤ 3) (m : ∃ m, n = m + 1 ∧ ∀ x ∈ d1, StD m x) (l1 : d1.length ≤ 12)
theorem at0 {x : V} {xs : List V} : atI (x :: xs) 0 = some x := (show atI (x :: xs) ((0 : Nat) : Int) = some x from atI_nat rfl)
theorem at1 {x y : V} {xs : List V} : atI (x :: y :: xs) 1 = some y := (show atI (x :: y :: xs) ((1 : Nat) : Int) = some y from atI_nat rfl)
theorem step_of {n : Nat} {d : PyData} (h : StD n d) : StepOf n d := by
  have leaf : LeafD d → StepOf n d := fun ⟨u, ks, items, hm, e, _⟩ => by
    obtain ⟨_, b, c, _⟩ := shl_words _ hm
    exact .leaf u items e b c
  cases n with
  | zero => exact leaf h
  | succ n =>
    rcases h with h | ⟨as, d1, d2, ha, e, r1, r2⟩ | ⟨k, d1, e, k1, k3, r1⟩
    · exact leaf h
    · have l4 : as.length = 4 := (show askK.length = as.length from paired_len2 ha).symm
      match as, l4 with
      | [a1, a2, a3, a4], _ => exact .iff a1 a2 a3 a4 d1 d2 e ⟨n, rfl, r1.2, r2.2⟩ r1.1 r2.1
    · exact .rep k d1 e k1 k3 ⟨n, rfl, r1.2⟩ r1.1
theorem dpAll_cat {K : PySem.W.Frag} {H : Hp} {ws : List V} {es : List PyData} : ∀ {vs : List V} {ds : List PyData}, DpAll K H vs ds → DpAll K H ws es → DpAll K H (vs ++ ws) (ds ++ es)
  | [], [], .nil, b => b
  | _ :: _, _ :: _, .cons a t, b => .cons a (dpAll_cat t b)
section
variable {P : Program} {w : World} {K : PySem.W.Frag} {mg : Str → Option Value} {base : Heap}
def spTimesOf (K : PySem.W.Frag) : Sp := fun vs H Q _ => ∃ (x : V) (n : Nat) (d : PyData), vs = [x] ∧ Dp K H x d ∧ StD n d ∧ Q (.int (timesD d)) H
theorem scTimesOf : FnScope ["step"] ["step"] (defScope s_times_of) := ⟨rfl, rfl, rfl, by decide +kernel, rfl, by decide +kernel, by decide +kernel⟩
theorem ok_timesOf {f : Addr} {fd : FuncData} (F : Fun K "times_of" "times_of" s_times_of f fd) : FnOk P w K mg base CX0 1 f fd ["step"] (spTimesOf K) := by
  refine F.ok scTimesOf (fun vs H Q E h => ?_) (fun cdv A outer s H vs Q E hr h => ?_)
  · obtain ⟨x, n, d, rfl, _⟩ := h
    rfl
  · obtain ⟨x, n, d, rfl, hx, hd, q⟩ := h
    refine ⟨_, pss_one (ps_ret (pe_ifExp (pt_cmpR op_eq (pe_ix ix_tup (pv 0) pe_int fun _ _ => rfl) pe_str (nomark _)) (pe_ix ix_tup (pv 0) pe_int fun _ _ => rfl) pe_int)), ?_⟩
    rcases step_of hd with ⟨u, items, rfl, h1, h2⟩ | ⟨a1, a2, a3, a4, d1, d2, rfl, _, _, _⟩ | ⟨k, d1, rfl, _, _, _, _⟩
    · cases hx with
      | tup ht hs =>
        cases hs with
        | cons hu hi =>
          cases hu
          refine ⟨_, rfl, _, _, _, _, rfl, rfl, ht, at0, rfl, _, rfl, ?_⟩
          rw [decide_eq_false (show ¬ V.str u = V.str "repeat" from fun z => h2 (V.str.inj z))]
          refine iteF ?_
          have e : timesD (.tuple (.str u :: items)) = 1 := by
            unfold timesD
            split
            · rename_i u' k c heq
              injection heq with heq
              injection heq with e1 e2
              injection e1 with e1
              rw [← e1, if_neg h2]
            · rfl
          rw [e] at q
          exact q
    · cases hx with
      | tup ht hs =>
        cases hs with
        | cons hu hi =>
          cases hu
          refine ⟨_, rfl, _, _, _, _, rfl, rfl, ht, at0, rfl, _, rfl, ?_⟩
          rw [decide_eq_false (show ¬ V.str "if" = V.str "repeat" from by decide +kernel)]
          have e : timesD (.tuple [.str "if", a1, a2, a3, a4, .tuple d1, .tuple d2]) = 1 := by
            unfold timesD
            split
            · rename_i heq
              simp at heq
            · rfl
          rw [e] at q
          exact iteF q
    · cases hx with
      | tup ht hs =>
        cases hs with
        | cons hu hi =>
          cases hu
          cases hi with
          | cons hk hi =>
            cases hk
            refine ⟨_, rfl, _, _, _, _, rfl, rfl, ht, at0, rfl, _, rfl, ?_⟩
            rw [decide_eq_true rfl]
            exact iteT ⟨_, rfl, _, _, _, _, rfl, rfl, ht, at1, q⟩
def spInner (K : PySem.W.Frag) : Sp := fun vs H Q _ => ∃ (x : V) (n : Nat) (d : PyData), vs = [x] ∧ Dp K H x d ∧ StD n d ∧ ∀ (y : V) (H' : Hp), Same H H' → Dp K H' y (.tuple (innerD d)) → Q y H'
theorem scInner : FnScope ["step"] ["step"] (defScope s_inner_steps) := ⟨rfl, rfl, rfl, by decide +kernel, rfl, by decide +kernel, by decide +kernel⟩
theorem ok_inner {f : Addr} {fd : FuncData} (F : Fun K "inner_steps" "inner_steps" s_inner_steps f fd) : FnOk P w K mg base CX0 1 f fd ["step"] (spInner K) := by
  refine F.ok scInner (fun vs H Q E h => ?_) (fun cdv A outer s H vs Q E hr h => ?_)
  · obtain ⟨x, n, d, rfl, _⟩ := h
    rfl
  · obtain ⟨x, n, d, rfl, hx, hd, q⟩ := h
    refine ⟨_, pss_cons (ps_if (pt_cmpR op_eq (pe_ix ix_tup (pv 0) pe_int fun _ _ => rfl) pe_str (nomark _)) (pss_one (ps_ret (pe_tup (StX.pa_star (pe_ix ix_tup (pv 0) (pe_un un_neg pe_int) fun _ _ => rfl) (StX.pa_star (pe_ix ix_tup (pv 0) (pe_un un_neg pe_int) fun _ _ => rfl) pa_nil))))) pss_nil)
      (pss_cons (ps_if (pt_cmpR op_eq (pe_ix ix_tup (pv 0) pe_int fun _ _ => rfl) pe_str (nomark _)) (pss_one (ps_ret (pe_ix ix_tup (pv 0) (pe_un un_neg pe_int) fun _ _ => rfl))) pss_nil)
      (pss_one (ps_ret (pe_tup pa_nil)))), ?_⟩
    rcases step_of hd with ⟨u, items, rfl, h1, h2⟩ | ⟨a1, a2, a3, a4, d1, d2, rfl, _, l1, l2⟩ | ⟨k, d1, rfl, _, _, _, _⟩
    · cases hx with
      | tup ht hs =>
        cases hs with
        | cons hu hi =>
          cases hu
          refine ⟨_, rfl, _, _, _, _, rfl, rfl, ht, at0, rfl, _, rfl, ?_⟩
          rw [decide_eq_false (show ¬ V.str u = V.str "if" from fun z => h1 (V.str.inj z))]
          refine iteF ⟨_, rfl, _, _, _, _, rfl, rfl, ht, at0, rfl, _, rfl, ?_⟩
          rw [decide_eq_false (show ¬ V.str u = V.str "repeat" from fun z => h2 (V.str.inj z))]
          refine iteF ⟨Nat.zero_le _, fun T hT => ?_⟩
          have e : innerD (.tuple (.str u :: items)) = [] := by
            unfold innerD
            split
            · rename_i u' k d1 heq
              injection heq with heq
              injection heq with e1 e2
              injection e1 with e1
              rw [← e1, if_neg h2]
            · rename_i u' a b c d d1 d2 heq
              injection heq with heq
              injection heq with e1 e2
              injection e1 with e1
              rw [← e1, if_neg h1]
            · rfl
          refine q _ _ (same_upd hT) ?_
          rw [e]
          exact .tup (SqT.of upd_same) .nil
    · cases hx with
      | tup ht hs =>
        cases hs with
        | cons hu hi =>
          cases hu
          cases hi with
          | cons b1 hi =>
          cases hi with
          | cons b2 hi =>
          cases hi with
          | cons b3 hi =>
          cases hi with
          | cons b4 hi =>
          cases hi with
          | cons b5 hi =>
          cases hi with
          | cons b6 hi =>
          cases hi
          cases b5 with
          | tup t1 s1 =>
          cases b6 with
          | tup t2 s2 =>
          refine ⟨_, rfl, _, _, _, _, rfl, rfl, ht, at0, rfl, _, rfl, ?_⟩
          rw [decide_eq_true rfl]
          have m1 := DpAll.len s1
          have m2 := DpAll.len s2
          refine iteT ⟨_, rfl, _, rfl, _, _, _, _, rfl, rfl, ht, rfl, _, _, rfl, .inl t1, _, rfl, _, rfl, _, _, _, _, rfl, rfl, ht, rfl, _, _, rfl, .inl t2, ?_, fun T hT => ?_⟩
          · rw [List.append_nil, List.length_append]
            exact Nat.le_trans (show _ ≤ 24 by omega) (by decide)
          · have mT := fun o => same_upd (o := o) hT
            have e : innerD (.tuple [.str "if", a1, a2, a3, a4, .tuple d1, .tuple d2]) = d1 ++ d2 := by
              unfold innerD
              split
              · rename_i heq
                simp at heq
              · rename_i u' a b c d d1' d2' heq
                simp at heq
                obtain ⟨e0, _, _, _, _, e1, e2⟩ := heq
                rw [← e0, ← e1, ← e2, if_pos rfl]
              · rename_i h1 h2
                exact absurd rfl (h2 _ _ _ _ _ _ _)
            refine q _ _ (mT _) ?_
            rw [e]
            exact .tup (SqT.of upd_same) (DpAll.same (mT _) _ _ (by rw [List.append_nil]; exact dpAll_cat s1 s2))
    · cases hx with
      | tup ht hs =>
        cases hs with
        | cons hu hi =>
          cases hu
          cases hi with
          | cons hk hi =>
            cases hk
            cases hi with
            | cons hd hi =>
            cases hi
            refine ⟨_, rfl, _, _, _, _, rfl, rfl, ht, at0, rfl, _, rfl, ?_⟩
            rw [decide_eq_false (show ¬ V.str "repeat" = V.str "if" from by decide +kernel)]
            refine iteF ⟨_, rfl, _, _, _, _, rfl, rfl, ht, at0, rfl, _, rfl, ?_⟩
            rw [decide_eq_true rfl]
            exact iteT ⟨_, rfl, _, rfl, _, _, _, _, rfl, rfl, ht, rfl, q _ _ (Same.refl H) hd⟩
end
end Lw

set_option maxRecDepth 100000
set_option linter.unusedVariables false
namespace Lw
open PySem PySem.Spec PyProof.Rows L2 VG
/-- steps with fewer than n about one another -/
def StDs : Nat → List PyData → Prop
  | 0, ds => ds = []
  | n + 1, ds => ∀ d ∈ ds, StD n d
theorem inner_std {n : Nat} {d : PyData} (h : StD n d) : StDs n (innerD d) ∧ (innerD d).length ≤ 24 := by
  rcases step_of h with ⟨u, items, rfl, h1, h2⟩ | ⟨a1, a2, a3, a4, d1, d2, rfl, ⟨m, rfl, s1, s2⟩, l1, l2⟩ | ⟨k, d1, rfl, _, _, ⟨m, rfl, s1⟩, l1⟩
  · rw [inner_leaf h1 h2]
    refine ⟨?_, by decide⟩
    cases n with
    | zero => rfl
    | succ n => exact fun _ h => by cases h
  · rw [inner_if]
    refine ⟨fun x hx => ?_, by rw [List.length_append]; omega⟩
    rcases List.mem_append.mp hx with hx | hx
    · exact s1 x hx
    · exact s2 x hx
  · exact ⟨s1, Nat.le_trans l1 (by decide)⟩
theorem times_small {n : Nat} {d : PyData} (h : StD n d) : 1 ≤ timesD d ∧ timesD d ≤ 3 := by
  rcases step_of h with ⟨u, items, rfl, h1, h2⟩ | ⟨a1, a2, a3, a4, d1, d2, rfl, _, l1, l2⟩ | ⟨k, d1, rfl, k1, k3, _, l1⟩
  · unfold timesD
    split
    · rename_i u' k c heq
      injection heq with heq
      injection heq with e1 e2
      injection e1 with e1
      rw [← e1, if_neg h2]
      exact ⟨by decide, by decide⟩
    · exact ⟨by decide, by decide⟩
  · unfold timesD
    split
    · rename_i heq
      simp at heq
    · exact ⟨by decide, by decide⟩
  · exact ⟨k1, k3⟩
section
variable {P : Program} {w : World} {K : PySem.W.Frag} {mg : Str → Option Value} {base : Heap}
def spCount (K : PySem.W.Frag) : Nat → Sp
  | 0 => fun _ _ _ _ => False
  | n + 1 => fun vs H Q _ => ∃ (x : V) (ds : List PyData), vs = [x] ∧ Dp K H x (.tuple ds) ∧ StDs n ds ∧ ds.length ≤ 30 ∧ ∀ H', Same H H' → Q (.int (cntD n ds)) H'
abbrev NCs : List Str := ["steps", "step"]
theorem scCount : FnScope NCs ["steps"] (defScope s_count_steps) := ⟨rfl, rfl, rfl, by decide +kernel, rfl, by decide +kernel, by decide +kernel⟩
theorem ok_count {f fT fI : Addr} {fd fdT fdI : FuncData} (F : Fun K "count_steps" "count_steps" s_count_steps f fd) (sm : mg "sum" = none)
    (GT : FnOk P w K mg base CX0 1 fT fdT ["step"] (spTimesOf K)) (mT : mg "times_of" = some (.ref fT)) (kT : PySem.W.keepIn K (.ref fT) = true) (bT : Binds K fdT ["step"] [])
    (GI : FnOk P w K mg base CX0 1 fI fdI ["step"] (spInner K)) (mI : mg "inner_steps" = some (.ref fI)) (kI : PySem.W.keepIn K (.ref fI) = true) (bI : Binds K fdI ["step"] [])
    (mC : mg "count_steps" = some (.ref f)) (kC : PySem.W.keepIn K (.ref f) = true) (bC : Binds K fd ["steps"] []) : ∀ n, FnOk P w K mg base CX0 (n + 1) f fd ["steps"] (spCount K n)
  | 0 => F.ok scCount (fun vs H Q E h => h.elim) (fun cdv A outer s H vs Q E hr h => h.elim)
  | n + 1 => by
    have ih := ok_count F sm GT mT kT bT GI mI kI bI mC kC bC n
    refine F.ok scCount (fun vs H Q E h => ?_) (fun cdv A outer s H vs Q E hr h => ?_)
    · obtain ⟨x, ds, rfl, _⟩ := h
      rfl
    · obtain ⟨x, ds, rfl, hx, hS, l10, q⟩ := h
      have nd := scCount.nd
      have hr1 : Room 1 _ := hr.mono (by omega)
      refine ⟨_, pss_one (ps_ret (pe_callB (cr_sum (by rfl)) (by rfl) sm (by decide +kernel) (pa_cons (pe_lc (own := [("step", 1)]) (g := gName 1) (tt := tYes) rfl nd (pi_tup (pv 0)) (blkOk_by (own := [("step", 1)]) (N := NCs) (sc := defScope s_count_steps) (by decide +kernel)) (fun _ _ _ _ _ => pg_name (i := 1) nd rfl (by first | exact Or.inl rfl | exact Or.inr rfl)) (fun _ _ _ _ _ => pts_nil)
        (fun _ _ _ _ _ => pe_op op_add pe_int (pe_op op_mul (pe_call GT hr1 (by rfl) mT kT bT .nil pass0 (pa_cons (pv 1) pa_nil)) (pe_call ih hr (by rfl) mC kC bC .nil pass0 (pa_cons (pe_call GI hr1 (by rfl) mI kI bI .nil pass0 (pa_cons (pv 1) pa_nil)) pa_nil))))) pa_nil))), ?_⟩
      obtain ⟨a, xs, rfl, hT, hds⟩ := dp_tup hx
      have lx := DpAll.len hds
      refine ⟨_, rfl, a, rfl, ⟨_, hT⟩, fun D hD => ?_⟩
      have mD := same_upd (o := .lst []) hD
      refine lc_tup (K := K) (a := a) (xs := xs) (fun i G => Same H G ∧ G D = some (.lst (((ds.take i).map fun d => 1 + timesD d * cntD (n - 1) (innerD d)).map V.int))) ⟨mD, upd_same⟩ (fun i G _ c => Same.tup c.1 hT) (fun i v G hv c => ?_) (fun G c => ?_)
      · obtain ⟨s1, hDa⟩ := c
        obtain ⟨d, hdi, hvd⟩ := DpAll.at' hds hv
        have hm := List.mem_of_getElem? hdi
        cases n with
        | zero =>
          rw [show ds = [] from hS] at hm
          cases hm
        | succ m =>
          have hd : StD m d := hS d hm
          obtain ⟨is_, il⟩ := inner_std hd
          obtain ⟨t1, t3⟩ := times_small hd
          have lti := (List.getElem?_eq_some_iff.mp hdi).1
          refine ⟨rfl, _, rfl, v, m, d, rfl, Dp.same s1 _ _ hvd, hd, ?_⟩
          refine ⟨_, rfl, v, m, d, rfl, Dp.same s1 _ _ hvd, hd, fun y G2 s2 hy => ?_⟩
          refine ⟨y, innerD d, rfl, hy, is_, by omega, fun G3 s3 => ?_⟩
          refine ⟨_, _, rfl, rfl, .inl ⟨by omega, by omega⟩, _, _, rfl, rfl, ?_⟩
          have s23 := s2.trans s3
          refine ⟨_, s23 _ _ hDa, ?_, fun b o hb => ?_, ?_⟩
          · rw [List.length_map, List.length_map, List.length_take]
            exact Nat.lt_of_lt_of_le (show _ < 60 by omega) (by decide)
          · rw [upd_ne (ne_of_none hb hD)]
            exact s23 _ _ (s1 _ _ hb)
          · rw [upd_same, List.take_add_one, hdi, List.map_append, List.map_append]
            rfl
      · obtain ⟨s1, hDa⟩ := c
        rw [lx, List.take_length] at hDa
        refine ⟨D, _, rfl, SqL.of hDa, ?_⟩
        have z := q G s1
        cases n with
        | zero =>
          rw [show ds = [] from hS]
          exact z
        | succ m => exact z
end
end Lw

set_option maxRecDepth 100000
set_option linter.unusedVariables false
namespace Lw
open PySem PySem.Spec PyProof.Rows L2 VG
theorem std_tup {n : Nat} {d : PyData} (h : StD n d) : ∃ items, d = .tuple (.str (wordD d) :: items) := by
  rcases step_of h with ⟨u, items, rfl, _, _⟩ | ⟨a1, a2, a3, a4, d1, d2, rfl, _, _, _⟩ | ⟨k, d1, rfl, _, _, _, _⟩ <;> exact ⟨_, rfl⟩
section
variable {P : Program} {w : World} {K : PySem.W.Frag} {mg : Str → Option Value} {base : Heap}
def spCountW (K : PySem.W.Frag) : Nat → Sp
  | 0 => fun _ _ _ _ => False
  | n + 1 => fun vs H Q _ => ∃ (x : V) (ds : List PyData) (z : Str), vs = [x, .str z] ∧ Dp K H x (.tuple ds) ∧ StDs n ds ∧ ds.length ≤ 30 ∧ ∀ H', Same H H' → Q (.int (cwD z n ds)) H'
abbrev NCw : List Str := ["steps", "word", "here", "inside", "step"]
theorem scCountW : FnScope NCw ["steps", "word"] (defScope s_count_word) := ⟨rfl, rfl, rfl, by decide +kernel, rfl, by decide +kernel, by decide +kernel⟩
theorem ok_countW {f fT fI : Addr} {fd fdT fdI : FuncData} (F : Fun K "count_word" "count_word" s_count_word f fd) (sm : mg "sum" = none) (ln : mg "len" = none)
    (GT : FnOk P w K mg base CX0 1 fT fdT ["step"] (spTimesOf K)) (mT : mg "times_of" = some (.ref fT)) (kT : PySem.W.keepIn K (.ref fT) = true) (bT : Binds K fdT ["step"] [])
    (GI : FnOk P w K mg base CX0 1 fI fdI ["step"] (spInner K)) (mI : mg "inner_steps" = some (.ref fI)) (kI : PySem.W.keepIn K (.ref fI) = true) (bI : Binds K fdI ["step"] [])
    (mC : mg "count_word" = some (.ref f)) (kC : PySem.W.keepIn K (.ref f) = true) (bC : Binds K fd ["steps", "word"] []) : ∀ n, FnOk P w K mg base CX0 (n + 1) f fd ["steps", "word"] (spCountW K n)
  | 0 => F.ok scCountW (fun vs H Q E h => h.elim) (fun cdv A outer s H vs Q E hr h => h.elim)
  | n + 1 => by
    have ih := ok_countW F sm ln GT mT kT bT GI mI kI bI mC kC bC n
    refine F.ok scCountW (fun vs H Q E h => ?_) (fun cdv A outer s H vs Q E hr h => ?_)
    · obtain ⟨x, ds, z, rfl, _⟩ := h
      rfl
    · obtain ⟨x, ds, z, rfl, hx, hS, l10, q⟩ := h
      have nd := scCountW.nd
      have hr1 : Room 1 _ := hr.mono (by omega)
      refine ⟨_, C8.pss_cut (ps_setLc (i := 2) (own := [("step", 4)]) (g := gName 4) (tt := _) (by rfl) nd rfl rfl (sw_true rfl rfl rfl (by decide +kernel)) (pi_tup (pv 0)) (blkOk_by (own := [("step", 4)]) (N := NCw) (sc := defScope s_count_word) (by decide +kernel)) (fun _ _ _ _ _ => pg_name (i := 4) nd rfl (by first | exact Or.inl rfl | exact Or.inr rfl)) (fun _ _ _ _ _ => pts_one (pt_cmpR op_eq (pe_ix (show IxR _ (rIxT K) from ix_tup) (pv 4) pe_int fun _ _ => rfl) (pv 1) (nomark _)))
          (fun _ _ _ _ _ => pe_int))
        (C8.pss_cut (ps_setLc (i := 3) (own := [("step", 4)]) (g := gName 4) (tt := tYes) (by rfl) nd rfl rfl (sw_true rfl rfl rfl (by decide +kernel)) (pi_tup (pv 0)) (blkOk_by (own := [("step", 4)]) (N := NCw) (sc := defScope s_count_word) (by decide +kernel)) (fun _ _ _ _ _ => pg_name (i := 4) nd rfl (by first | exact Or.inl rfl | exact Or.inr rfl)) (fun _ _ _ _ _ => pts_nil)
          (fun _ _ _ _ _ => pe_op op_mul (pe_call GT hr1 (by rfl) mT kT bT .nil pass0 (pa_cons (pv 4) pa_nil)) (pe_call ih hr (by rfl) mC kC bC .nil pass0 (pa_cons (pe_call GI hr1 (by rfl) mI kI bI .nil pass0 (pa_cons (pv 4) pa_nil)) (pa_cons (pv 1) pa_nil)))))
        (pss_one (ps_ret (pe_op op_add (pe_callB call_len_seq (by rfl) ln PySem.boot_len (pa_cons (pv 2) pa_nil)) (pe_callB (cr_sum (by rfl)) (by rfl) sm (by decide +kernel) (pa_cons (pv 3) pa_nil)))))), ?_⟩
      obtain ⟨a, xs, rfl, hT, hds⟩ := dp_tup hx
      have lx := DpAll.len hds
      have dS : ∀ d ∈ ds, ∃ m, n = m + 1 ∧ StD m d := fun d hm => by
        cases n with
        | zero =>
          rw [show ds = [] from hS] at hm
          cases hm
        | succ m => exact ⟨m, rfl, hS d hm⟩
      refine ⟨fun σ G => ∃ (D : Addr) (o3 o4 : Option V), σ = [some (.ref a), some (.str z), some (.ref D), o3, o4] ∧ Same H G ∧ G D = some (.lst (List.replicate (ds.filter fun d => decide (wordD d = z)).length (.int 1))), ?_, ?_⟩
      · refine ⟨_, rfl, a, rfl, ⟨_, hT⟩, fun D hD => ?_⟩
        have mD := same_upd (o := .lst []) hD
        refine lc_tup (K := K) (a := a) (xs := xs) (fun i G => Same H G ∧ G D = some (.lst (List.replicate ((ds.take i).filter fun d => decide (wordD d = z)).length (.int 1)))) ⟨mD, upd_same⟩ (fun i G _ c => Same.tup c.1 hT) (fun i v G hv c => ?_) (fun G c => ?_)
        · obtain ⟨s1, hDa⟩ := c
          obtain ⟨d, hdi, hvd⟩ := DpAll.at' hds hv
          have hm := List.mem_of_getElem? hdi
          obtain ⟨m, rfl, hd⟩ := dS d hm
          obtain ⟨items, ed⟩ := std_tup hd
          have hvd2 := Dp.same s1 _ _ hvd
          rw [ed] at hvd2
          obtain ⟨T, ws, rfl, hTt, hws⟩ := dp_tup hvd2
          cases hws with
          | cons hu hi =>
          cases hu
          have et : ds.take (i + 1) = ds.take i ++ [d] := by
            rw [List.take_add_one, hdi]
            rfl
          have lti := (List.getElem?_eq_some_iff.mp hdi).1
          have lf : ((ds.take i).filter fun d => decide (wordD d = z)).length ≤ i := Nat.le_trans (List.length_filter_le _ _) (by rw [List.length_take]; omega)
          refine ⟨rfl, _, rfl, _, _, _, _, rfl, rfl, hTt, at0, _, rfl, rfl, _, rfl, ?_⟩
          by_cases e : wordD d = z
          · rw [decide_eq_true (show V.str (wordD d) = V.str z from by rw [e])]
            refine iteT ⟨_, hDa, ?_, fun b o hb => ?_, ?_⟩
            · rw [List.length_replicate]
              exact Nat.lt_of_le_of_lt lf (Nat.lt_of_lt_of_le (show i < 60 by omega) (by decide))
            · rw [upd_ne (ne_of_none hb hD)]
              exact s1 _ _ hb
            · rw [upd_same, et, List.filter_append]
              have e2 : ([d].filter fun d => decide (wordD d = z)) = [d] := by simp [e]
              rw [e2, List.length_append, show ([d] : List PyData).length = 1 from rfl, List.replicate_succ']
          · rw [decide_eq_false (show ¬ V.str (wordD d) = V.str z from fun h => e (V.str.inj h))]
            refine iteF ⟨s1, ?_⟩
            have e2 : ([d].filter fun d => decide (wordD d = z)) = [] := by simp [e]
            rw [et, List.filter_append, e2, List.append_nil]
            exact hDa
        · obtain ⟨s1, hDa⟩ := c
          rw [lx, List.take_length] at hDa
          exact ⟨D, _, _, rfl, s1, hDa⟩
      rintro σ G ⟨D, o3, o4, rfl, s0, hD0⟩
      refine ⟨fun σ G => ∃ (D2 : Addr) (o4 : Option V), σ = [some (.ref a), some (.str z), some (.ref D), some (.ref D2), o4] ∧ Same H G ∧ G D = some (.lst (List.replicate (ds.filter fun d => decide (wordD d = z)).length (.int 1))) ∧ G D2 = some (.lst ((ds.map fun d => timesD d * cwD z (n - 1) (innerD d)).map V.int)), ?_, ?_⟩
      · refine ⟨_, rfl, a, rfl, ⟨_, Same.tup s0 hT⟩, fun D2 hD2 => ?_⟩
        have mD := same_upd (o := .lst []) hD2
        refine lc_tup (K := K) (a := a) (xs := xs) (fun i G' => Same G G' ∧ G' D2 = some (.lst (((ds.take i).map fun d => timesD d * cwD z (n - 1) (innerD d)).map V.int))) ⟨mD, upd_same⟩ (fun i G' _ c => Same.tup c.1 (Same.tup s0 hT)) (fun i v G' hv c => ?_) (fun G' c => ?_)
        · obtain ⟨s1, hDa⟩ := c
          obtain ⟨d, hdi, hvd⟩ := DpAll.at' hds hv
          have hm := List.mem_of_getElem? hdi
          obtain ⟨m, rfl, hd⟩ := dS d hm
          obtain ⟨is_, il⟩ := inner_std hd
          obtain ⟨t1, t3⟩ := times_small hd
          have lti := (List.getElem?_eq_some_iff.mp hdi).1
          refine ⟨rfl, _, rfl, v, m, d, rfl, Dp.same (s0.trans s1) _ _ hvd, hd, ?_⟩
          refine ⟨_, rfl, v, m, d, rfl, Dp.same (s0.trans s1) _ _ hvd, hd, fun y G2 s2 hy => ?_⟩
          refine ⟨_, rfl, y, innerD d, z, rfl, hy, is_, by omega, fun G3 s3 => ?_⟩
          refine ⟨_, _, rfl, rfl, .inl ⟨by omega, by omega⟩, ?_⟩
          have s23 := s2.trans s3
          refine ⟨_, s23 _ _ hDa, ?_, fun b o hb => ?_, ?_⟩
          · rw [List.length_map, List.length_map, List.length_take]
            exact Nat.lt_of_lt_of_le (show _ < 60 by omega) (by decide)
          · rw [upd_ne (ne_of_none hb hD2)]
            exact s23 _ _ (s1 _ _ hb)
          · rw [upd_same, List.take_add_one, hdi, List.map_append, List.map_append]
            rfl
        · obtain ⟨s1, hDa⟩ := c
          rw [lx, List.take_length] at hDa
          exact ⟨D2, _, rfl, s0.trans s1, s1 _ _ hD0, hDa⟩
      rintro σ G2 ⟨D2, o4, rfl, s2, h1, h2⟩
      refine ⟨_, rfl, D, _, rfl, .inl (SqL.of h1), _, rfl, D2, _, rfl, SqL.of h2, _, _, rfl, rfl, ?_⟩
      rw [List.length_replicate]
      have r := q G2 s2
      cases n with
      | zero =>
        rw [show ds = [] from hS]
        exact r
      | succ m => exact r
end
end Lw

set_option maxRecDepth 100000
set_option linter.unusedVariables false
namespace Lw
open PySem PySem.Spec PyProof.Rows L2 VG
section
variable {P : Program} {w : World} {K : PySem.W.Frag} {mg : Str → Option Value} {base : Heap}
theorem cutV_take (xs : List V) (n : Nat) : cutV xs none (some (n : Int)) = xs.take n := by
  unfold cutV
  rw [HT.sIx_nat, HT.sIx_none, List.drop_zero, Nat.sub_zero]
  by_cases h : n ≤ xs.length
  · rw [Nat.min_eq_left h]
  · rw [Nat.min_eq_right (by omega), List.take_of_length_le (Nat.le_refl _), List.take_of_length_le (by omega)]
abbrev PairR (G : Hp) (p : Addr) : V → Str × V → Prop := fun x e => ∃ t, x = .ref t ∧ t ≠ p ∧ G t = some (.tup [.str e.1, e.2])
theorem inV_not {z : Str} {zs : List Str} (h : z ∉ zs) : inV (.str z) (zs.map V.str) = false := by
  unfold inV
  rw [List.any_eq_false]
  intro v hv
  obtain ⟨y, hy, rfl⟩ := List.mem_map.mp hv
  show ¬ (y == z) = true
  intro e
  rw [eq_of_beq e] at hy
  exact h hy
theorem flat_strs2 (zs : List Str) : (zs.map V.str).all flatV = true := by
  rw [List.all_eq_true]
  intro v hv
  obtain ⟨y, hy, rfl⟩ := List.mem_map.mp hv
  rfl
def spCheckNs (K : PySem.W.Frag) : Sp := fun vs H Q _ => ∃ (N : Addr) (zs : List Str), vs = [.ref N] ∧ SqL K H N (zs.map V.str) ∧ zs.Nodup ∧ (∀ z ∈ zs, nameB z = true ∧ z.length ≤ 1000) ∧ zs.length ≤ 3 ∧ ∀ H', Same H H' → Q .non H'
abbrev NCn : List Str := ["names", "name", "at"]
theorem scCheckNs : FnScope NCn ["names"] (defScope s_check_names) := ⟨rfl, rfl, rfl, by decide +kernel, rfl, by decide +kernel, by decide +kernel⟩
theorem ok_checkNs {f fN : Addr} {fd fdN : FuncData} {u : Value} (F : Fun K "check_names" "check_names" s_check_names f fd) (en : mg "enumerate" = none) (ln : mg "len" = none) (mM : mg "MOST_AT_FIRST" = some u) (rM : RelV (.int 3) u)
    (GN : FnOk P w K mg base CX0 2 fN fdN ["value"] spName) (mN : mg "is_name" = some (.ref fN)) (kN : PySem.W.keepIn K (.ref fN) = true) (bN : Binds K fdN ["value"] []) :
    FnOk P w K mg base CX0 3 f fd ["names"] (spCheckNs K) := by
  refine F.ok scCheckNs (fun vs H Q E h => ?_) (fun cdv A outer s H vs Q E hr h => ?_)
  · obtain ⟨N, zs, rfl, _⟩ := h
    rfl
  · obtain ⟨N, zs, rfl, hN, hnd, hok, l3, q⟩ := h
    have nd := scCheckNs.nd
    refine ⟨_, C8.pss_cut (ps_for PassesOwn.never rfl (pi_list (pv 0)) (pg_name (i := 1) nd rfl (Or.inl rfl)) (pss_one (ps_if (pt_not (pt_val (pe_call GN hr (by rfl) mN kN bN .nil pass0 (pa_cons (pv 1) pa_nil)))) (pss_one ps_false) pss_nil)))
      (C8.pss_cut (ps_for PassesOwn.never rfl (pi_enumG (by rfl) en (pa_cons (pv 0) pa_nil)) (pg_tup (by rfl) (pgs_cons (pg_name (i := 2) nd rfl (Or.inl rfl)) (pgs_cons (pg_name (i := 1) nd rfl (Or.inl rfl)) pgs_nil)))
          (pss_one (ps_if (pt_cmpR op_in_seq (pv 1) (pe_slice sl_list (pv 0) po_none (po_some (pv 2))) (by rfl)) (pss_one ps_false) pss_nil)))
        (pss_one (ps_if (pt_cmpR op_gt (pe_callB call_len_seq (by rfl) ln PySem.boot_len (pa_cons (pv 0) pa_nil)) (pe_glob (v := .int 3) (by rfl) mM rM) (nomark _)) (pss_one ps_false) pss_nil))), ?_⟩
    refine ⟨fun σ G => ∃ o1 o2 : Option V, σ = [some (.ref N), o1, o2] ∧ Same H G, ?_, ?_⟩
    · refine ⟨_, rfl, N, rfl, ⟨_, hN⟩, for_list (K := K) (a := N) (xs := zs.map V.str) (fun i σ G => ∃ o1 o2 : Option V, σ = [some (.ref N), o1, o2] ∧ Same H G) ⟨_, _, rfl, Same.refl H⟩ (fun i σ G _ ⟨_, _, _, sm⟩ => Same.seq sm hN) ?_ (fun σ G h => h)⟩
      rintro i v σ G hv ⟨o1, o2, rfl, sm⟩
      rw [List.getElem?_map] at hv
      obtain ⟨z, hz, rfl⟩ := Option.map_eq_some_iff.mp hv
      obtain ⟨z1, z2⟩ := hok z (List.mem_of_getElem? hz)
      refine ⟨_, rfl, z, rfl, z2, _, rfl, ?_⟩
      rw [z1]
      exact iteF ⟨_, _, rfl, sm⟩
    rintro σ G ⟨o1, o2, rfl, sm⟩
    refine ⟨fun σ G => ∃ o1 o2 : Option V, σ = [some (.ref N), o1, o2] ∧ Same H G, ?_, ?_⟩
    · refine ⟨_, rfl, N, .l, _, rfl, Same.seq sm hN, for_enumG (K := K) (k := .l) (a := N) (xs := zs.map V.str) (fun i σ G => ∃ o1 o2 : Option V, σ = [some (.ref N), o1, o2] ∧ Same H G) ⟨_, _, rfl, sm⟩ (fun i σ G ⟨_, _, _, sm⟩ => Same.seq sm hN) ?_ (fun σ G h => h)⟩
      rintro i v T σ G hv ⟨o1, o2, rfl, sm⟩ hT
      rw [List.getElem?_map] at hv
      obtain ⟨z, hz, rfl⟩ := Option.map_eq_some_iff.mp hv
      have mT := same_upd (o := .tup [.int (i : Nat), .str z]) hT
      refine ⟨_, _, rfl, SqT.of upd_same, rfl, _, _, rfl, _, _, rfl, rfl, ?_⟩
      refine ⟨_, rfl, _, rfl, _, rfl, _, rfl, N, _, rfl, Same.seq (sm.trans mT) hN, fun L hL => ?_⟩
      rw [cutV_take, ← List.map_take]
      have mL := same_upd (o := .lst ((zs.take i).map V.str)) hL
      refine ⟨L, _, rfl, .inl (SqL.of upd_same), rfl, flat_strs2 _, _, rfl, ?_⟩
      have ni : z ∉ zs.take i := fun h => by
        obtain ⟨j, hj⟩ := List.mem_iff_getElem?.mp h
        have lj : j < i := by
          by_cases c : j < i
          · exact c
          · rw [List.getElem?_take, if_neg c] at hj
            cases hj
        rw [List.getElem?_take, if_pos lj] at hj
        obtain ⟨a1, b1⟩ := List.getElem?_eq_some_iff.mp hj
        obtain ⟨a2, b2⟩ := List.getElem?_eq_some_iff.mp hz
        exact List.pairwise_iff_getElem.mp hnd j i a1 a2 lj (b1.trans b2.symm)
      simp only [Bool.false_eq_true, if_false]
      rw [inV_not ni]
      exact iteF ⟨_, _, rfl, sm.trans (mT.trans mL)⟩
    rintro σ G ⟨o1, o2, rfl, sm⟩
    refine ⟨_, rfl, N, _, rfl, .inl (Same.seq sm hN), _, _, rfl, rfl, _, rfl, ?_⟩
    rw [decide_eq_false (by rw [List.length_map]; omega)]
    exact iteF (q G sm)
end
end Lw

set_option maxRecDepth 100000
set_option linter.unusedVariables false
namespace Lw
open PySem PySem.Spec PyProof.Rows L2 VG
section
variable {P : Program} {w : World} {K : PySem.W.Frag} {mg : Str → Option Value} {base : Heap}
/-- is_number of a number within -/
def spWithin : Sp := fun vs H Q _ => ∃ i l m : Int, vs = [.int i, .int l, .int m] ∧ l ≤ i ∧ i ≤ m ∧ Q (.bl true) H
theorem scNumber : FnScope ["value", "least", "most"] ["value", "least", "most"] (defScope s_is_number) := ⟨rfl, rfl, rfl, by decide +kernel, rfl, by decide +kernel, by decide +kernel⟩
theorem ok_within {f fW : Addr} {fd fdW : FuncData} (F : Fun K "is_number" "is_number" s_is_number f fd) (FW : Fun K "_is_whole" "_is_whole" s__is_whole fW fdW) (T : NmW mg) (mW : mg "_is_whole" = some (.ref fW)) (bW : Binds K fdW ["value"] []) :
    FnOk P w K mg base CX0 2 f fd ["value", "least", "most"] spWithin := by
  refine F.ok scNumber (fun vs H Q E h => ?_) (fun cdv A outer s H vs Q E hr h => ?_)
  · obtain ⟨i, l, m, rfl, _⟩ := h
    rfl
  · obtain ⟨i, l, m, rfl, h1, h2, q⟩ := h
    refine ⟨_, pss_one (ps_ret (pe_and (pe_call (ok_whole FW T) hr (by rfl) mW FW.kp bW .nil pass0 (pa_cons (pv 0) pa_nil)) (pe_one (pe_chain op_le op_le (pv 1) (pv 0) (pv 2))))), ?_⟩
    refine ⟨_, rfl, _, .int i, rfl, .int i, _, rfl, iteT ⟨_, rfl, _, rfl, _, _, rfl, rfl, _, rfl, ?_⟩⟩
    rw [decide_eq_true h1]
    refine iteT ⟨_, rfl, _, _, rfl, rfl, ?_⟩
    show Q (.bl (decide (i ≤ m))) H
    rw [decide_eq_true h2]
    exact q
def spItemL (K : PySem.W.Frag) : Sp := fun vs H Q _ => ∃ (kd : Str) (x : V) (d : PyData) (l : Nat), vs = [.str kd, x, .int l] ∧ (l = 1 ∨ l = 2) ∧ Dp K H x d ∧ KindL l kd d ∧ ∀ H', Same H H' → Q (.bl true) H'
theorem ok_itemL {f fY fL fS fN fM : Addr} {fd fdY fdL fdS fdN fdM : FuncData} {u : Value} (F : FunD K "is_item" "is_item" (defArgs s_is_item) (defBody s_is_item) (defScope s_is_item) [.int 2] [] f fd) (is : mg "isinstance" = none) (tp : mg "tuple" = none) (mT : mg "MOST_TIMES" = some u) (rT : RelV (.int 3) u)
    (GY : FnOk P w K mg base CX0 1 fY fdY ["value", "layers"] (spLayer K)) (mY : mg "is_layer" = some (.ref fY)) (kY : PySem.W.keepIn K (.ref fY) = true) (bY : Binds K fdY ["value", "layers"] [])
    (GL : FnOk P w K mg base CX0 4 fL fdL ["value"] (spIsLen K)) (mL : mg "is_length" = some (.ref fL)) (kL : PySem.W.keepIn K (.ref fL) = true) (bL : Binds K fdL ["value"] [])
    (GS : FnOk P w K mg base CX0 4 fS fdS ["value"] (spIsScale K)) (mS : mg "is_scale" = some (.ref fS)) (kS : PySem.W.keepIn K (.ref fS) = true) (bS : Binds K fdS ["value"] [])
    (GM : FnOk P w K mg base CX0 2 fM fdM ["value", "least", "most"] spWithin) (mM : mg "is_number" = some (.ref fM)) (kM : PySem.W.keepIn K (.ref fM) = true) (bM : Binds K fdM ["value", "least", "most"] [])
    (GN : FnOk P w K mg base CX0 2 fN fdN ["value"] spName) (mN : mg "is_name" = some (.ref fN)) (kN : PySem.W.keepIn K (.ref fN) = true) (bN : Binds K fdN ["value"] []) :
    FnOk P w K mg base CX0 5 f fd ["kind", "value", "layers"] (spItemL K) := by
  refine F.ok scItem (fun vs H Q E h => ?_) (fun cdv A outer s H vs Q E hr h => ?_)
  · obtain ⟨kd, x, d, l, rfl, _⟩ := h
    rfl
  · obtain ⟨kd, x, d, l, rfl, hl, hx, hk, k⟩ := h
    have hr1 : Room 1 _ := hr.mono (by decide)
    have hr2 : Room 2 _ := hr.mono (by decide)
    refine ⟨_, pss_cons (ps_if (pt_cmpR op_eq (pv 0) pe_str (nomark _)) (pss_one (ps_ret (pe_call GY hr1 (by rfl) mY kY bY .nil pass0 (pa_cons (pv 1) (pa_cons (pv 2) pa_nil))))) pss_nil)
      (pss_cons (ps_if (pt_cmpR op_eq (pv 0) pe_str (nomark _)) (pss_one (ps_ret (pe_call GL hr (by rfl) mL kL bL .nil pass0 (pa_cons (pv 1) pa_nil)))) pss_nil)
      (pss_cons (ps_if (pt_cmpR op_eq (pv 0) pe_str (nomark _)) (pss_one (ps_ret (pe_call GS hr (by rfl) mS kS bS .nil pass0 (pa_cons (pv 1) pa_nil)))) pss_nil)
      (pss_cons (ps_if (pt_cmpR op_eq (pv 0) pe_str (nomark _)) (pss_one (ps_ret (pe_call GM hr2 (by rfl) mM kM bM .nil pass0 (pa_cons (pv 1) (pa_cons pe_int (pa_cons (pe_glob (v := .int 3) (by rfl) mT rT) pa_nil)))))) pss_nil)
      (pss_cons (ps_if (pt_cmpR op_eq (pv 0) pe_str (nomark _)) (pss_one (ps_ret (pe_callB call_isi (by rfl) is (by decide +kernel) (pa_cons (pv 1) (pa_cons (pe_bltn (v := .ty "tuple") (by rfl) tp (by decide +kernel) rfl) pa_nil))))) pss_nil)
      (pss_one (ps_ret (pe_call GN hr2 (by rfl) mN kN bN .nil pass0 (pa_cons (pv 1) pa_nil)))))))), ?_⟩
    have no : ∀ {a b : Str} {S : Prop} {T : Prop}, a ≠ b → T → (if decide (V.str a = V.str b) = true then S else T) := fun {a b S T} n t => by
      rw [str_cmp, decide_eq_false n]
      exact iteF t
    have yes : ∀ {a : Str} {S : Prop} {T : Prop}, S → (if decide (V.str a = V.str a) = true then S else T) := fun {a S T} t => by
      rw [decide_eq_true rfl]
      exact iteT t
    cases hk with
    | times h1 h3 =>
      cases hx
      exact ⟨_, rfl, rfl, _, rfl, no (by decide +kernel) ⟨_, rfl, rfl, _, rfl, no (by decide +kernel) ⟨_, rfl, rfl, _, rfl, no (by decide +kernel) ⟨_, rfl, rfl, _, rfl, yes ⟨_, rfl, _, 1, 3, rfl, h1, h3, k H (Same.refl H)⟩⟩⟩⟩⟩
    | steps =>
      cases hx with
      | tup ht hd =>
      exact ⟨_, rfl, rfl, _, rfl, no (by decide +kernel) ⟨_, rfl, rfl, _, rfl, no (by decide +kernel) ⟨_, rfl, rfl, _, rfl, no (by decide +kernel) ⟨_, rfl, rfl, _, rfl, no (by decide +kernel) ⟨_, rfl, rfl, _, rfl, yes ⟨_, rfl, _, _, _, _, true, rfl, .ty "tuple", tyx_tup ht, kit_ty (by decide +kernel), k H (Same.refl H)⟩⟩⟩⟩⟩⟩
    | old hk hy =>
    cases hk with
    | layer h => exact ⟨_, rfl, rfl, _, rfl, yes ⟨_, rfl, _, rfl, x, _, l, rfl, hl, hx, lay_sm h, fun H' s => by rw [hy rfl]; exact k H' s⟩⟩
    | length h =>
      refine ⟨_, rfl, rfl, _, rfl, no (by decide +kernel) ⟨_, rfl, rfl, _, rfl, yes ⟨_, rfl, x, d, rfl, hx, h.1, fun H' s => ?_⟩⟩⟩
      rw [decide_eq_true h.2.1]
      exact k H' s
    | scale h g =>
      refine ⟨_, rfl, rfl, _, rfl, no (by decide +kernel) ⟨_, rfl, rfl, _, rfl, no (by decide +kernel) ⟨_, rfl, rfl, _, rfl, yes ⟨_, rfl, x, d, rfl, hx, h.1, fun H' s => ?_⟩⟩⟩⟩
      rw [decide_eq_true g]
      exact k H' s
    | name h =>
      cases hx
      refine ⟨_, rfl, rfl, _, rfl, no (by decide +kernel) ⟨_, rfl, rfl, _, rfl, no (by decide +kernel) ⟨_, rfl, rfl, _, rfl, no (by decide +kernel) ⟨_, rfl, rfl, _, rfl, no (by decide +kernel) ⟨_, rfl, rfl, _, rfl, no (by decide +kernel) ⟨_, rfl, _, rfl, Nat.le_trans h.2 (by decide), ?_⟩⟩⟩⟩⟩⟩
      rw [h.1]
      exact k H (Same.refl H)
    | new h =>
      cases hx
      refine ⟨_, rfl, rfl, _, rfl, no (by decide +kernel) ⟨_, rfl, rfl, _, rfl, no (by decide +kernel) ⟨_, rfl, rfl, _, rfl, no (by decide +kernel) ⟨_, rfl, rfl, _, rfl, no (by decide +kernel) ⟨_, rfl, rfl, _, rfl, no (by decide +kernel) ⟨_, rfl, _, rfl, Nat.le_trans h.2 (by decide), ?_⟩⟩⟩⟩⟩⟩
      rw [h.1]
      exact k H (Same.refl H)
end
end Lw

set_option maxRecDepth 100000
set_option linter.unusedVariables false
namespace Lw
open PySem PySem.Spec PyProof.Rows L2 VG
section
variable {P : Program} {w : World} {K : PySem.W.Frag} {mg : Str → Option Value} {base : Heap}
def spAreIt (K : PySem.W.Frag) : Sp := fun vs H Q _ => ∃ (T L : Addr) (ks : List Str) (ds : List PyData) (xs : List V) (l : Nat), vs = [.ref T, .ref L, .int l] ∧ (l = 1 ∨ l = 2) ∧ SqT K H T (ks.map V.str) ∧ SqL K H L xs ∧ DpAll K H xs ds ∧ Paired (KindL l) ks ds ∧ ks.length ≤ 10 ∧ ∀ H', Same H H' → Q (.bl true) H'
abbrev NAi : List Str := ["kinds", "values", "layers", "kind", "value"]
theorem scAreIt : FnScope NAi ["kinds", "values", "layers"] (defScope s_are_items) := ⟨rfl, rfl, rfl, by decide +kernel, rfl, by decide +kernel, by decide +kernel⟩
theorem all_true : ∀ n, ((List.replicate n true).all id) = true
  | 0 => rfl
  | n + 1 => by
    rw [List.replicate_succ]
    show (true && (List.replicate n true).all id) = true
    rw [all_true n]
    rfl
theorem ok_areIt {f fI : Addr} {fd fdI : FuncData} (F : FunD K "are_items" "are_items" (defArgs s_are_items) (defBody s_are_items) (defScope s_are_items) [.int 2] [] f fd) (zi : mg "zip" = none) (al : mg "all" = none) (ln : mg "len" = none)
    (GI : FnOk P w K mg base CX0 5 fI fdI ["kind", "value", "layers"] (spItemL K)) (mI : mg "is_item" = some (.ref fI)) (kI : PySem.W.keepIn K (.ref fI) = true) (bI : Binds K fdI ["kind", "value", "layers"] []) :
    FnOk P w K mg base CX0 6 f fd ["kinds", "values", "layers"] (spAreIt K) := by
  refine F.ok scAreIt (fun vs H Q E h => ?_) (fun cdv A outer s H vs Q E hr h => ?_)
  · obtain ⟨T, L, ks, ds, xs, l, rfl, _⟩ := h
    rfl
  · obtain ⟨T, L, ks, ds, xs, l, rfl, hl, hT, hL, hd, pk, l10, q⟩ := h
    have nd := scAreIt.nd
    refine ⟨_, pss_one (ps_ret (pe_and (pe_cmpR op_eq (pe_callB call_len_seq (by rfl) ln PySem.boot_len (pa_cons (pv 1) pa_nil)) (pe_callB call_len_seq (by rfl) ln PySem.boot_len (pa_cons (pv 0) pa_nil)) (nomark _))
      (pe_one (pe_callB (cr_all rfl) (by rfl) al (by decide +kernel) (pa_cons (pe_lc (own := [("kind", 3), ("value", 4)]) (g := gTup K 2 (gCons (gName 3) (gCons (gName 4) gNil))) (tt := tYes) rfl nd (show PI _ _ _ (iZipG K _) from pi_zipG (by rfl) zi (pa_cons (pv 0) (pa_cons (pv 1) pa_nil)))
        (blkOk_by (own := [("kind", 3), ("value", 4)]) (N := NAi) (sc := defScope s_are_items) (by decide +kernel)) (fun _ _ _ _ _ => pg_tup (by rfl) (pgs_cons (pg_name (i := 3) nd rfl (by first | exact Or.inl rfl | exact Or.inr rfl)) (pgs_cons (pg_name (i := 4) nd rfl (by first | exact Or.inl rfl | exact Or.inr rfl)) pgs_nil)))
        (fun _ _ _ _ _ => pts_nil) (fun _ _ _ _ _ => pe_call GI hr (by rfl) mI kI bI .nil pass0 (pa_cons (pv 3) (pa_cons (pv 4) (pa_cons (pv 2) pa_nil))))) pa_nil))))), ?_⟩
    have lp := paired_len2 pk
    have lx := DpAll.len hd
    refine ⟨_, rfl, L, xs, rfl, .inl hL, _, rfl, T, _, rfl, .inr hT, rfl, _, rfl, ?_⟩
    rw [decide_eq_true (show V.int (xs.length : Nat) = V.int ((ks.map V.str).length : Nat) from by rw [List.length_map]; congr 1; omega)]
    refine iteT ?_
    refine ⟨_, rfl, _, rfl, T, L, .t, .l, ks.map V.str, xs, rfl, hT, hL, fun D hD => lc_zipG (K := K) (k1 := .t) (k2 := .l) (a := T) (b := L) (xs := ks.map V.str) (ys := xs) (by rw [List.length_map]; omega) (fun i G => Same H G ∧ G D = some (.lst ((List.replicate i true).map V.bl))) ⟨same_upd hD, upd_same⟩ (fun i G _ c => ⟨Kd.same (k := .t) c.1 hT, Kd.same (k := .l) c.1 hL⟩) (fun i u v T2 G hxi hyi c hT2 => ?_) (fun G c => ?_)⟩
    · rw [List.getElem?_map] at hxi
      obtain ⟨kd, hk, rfl⟩ := Option.map_eq_some_iff.mp hxi
      obtain ⟨d, hdi, hvd⟩ := DpAll.at' hd hyi
      obtain ⟨d', hd', kk⟩ := paired_at2 pk hk
      rw [hdi] at hd'
      cases hd'
      have mT := same_upd (o := .tup [.str kd, v]) hT2
      have li := (List.getElem?_eq_some_iff.mp hk).1
      refine ⟨_, _, rfl, SqT.of upd_same, rfl, _, _, rfl, _, _, rfl, rfl, ?_⟩
      refine ⟨rfl, _, rfl, _, rfl, _, rfl, kd, v, d, l, rfl, hl, Dp.same (c.1.trans mT) _ _ hvd, kk, fun G2 s2 => ?_⟩
      have s12 := mT.trans s2
      refine ⟨_, s12 _ _ c.2, ?_, fun b o hb => ?_, ?_⟩
      · rw [List.length_map, List.length_replicate]
        exact Nat.lt_of_lt_of_le (show i < 20 by omega) (by decide)
      · rw [upd_ne (ne_of_none hb hD)]
        exact s12 _ _ (c.1 _ _ hb)
      · rw [upd_same, List.replicate_succ', List.map_append]
        rfl
    · obtain ⟨s1, hDa⟩ := c
      refine ⟨D, _, rfl, SqL.of hDa, ?_⟩
      rw [all_true]
      exact q G s1
end
end Lw

set_option maxRecDepth 100000
set_option linter.unusedVariables false
namespace Lw
open PySem PySem.Spec PyProof.Rows L2 VG
/-- a step without steps in it, in a world of l layers -/
def LeafL (l : Nat) (d : PyData) : Prop := ∃ (u : Str) (ks : List Str) (items : List PyData), (u, ks) ∈ SHL ∧ d = .tuple (.str u :: items) ∧ Paired (KindL l) ks items ∧ (u = "ride" → l = 2) ∧ (u = "same" → ∃ y z : Str, items = [.str y, .str z] ∧ y ≠ z)
theorem kindL_str {l : Nat} {kd z : Str} (h : KindL l kd (.str z)) : SeqAt.shaped (.str z) = true := by
  have wd : ∀ {z : Str}, nmB z → SeqAt.shaped (.str z) = true := fun {z} h => by
    obtain ⟨a, b⟩ := nm_wd h
    exact (smk_str (m := 12) b a).Sm.shaped
  cases h with
  | old h hl =>
    cases h with
    | layer h => exact (lay_sm h).shaped
    | name h => exact wd h
    | new h => exact wd h
    | length h => exact absurd h.1 (by show ¬ (okR (.str z) = true); intro e; cases e)
    | scale h g => exact absurd h.1 (by show ¬ (okR (.str z) = true); intro e; cases e)
structure ShT (K : PySem.W.Frag) (w : World) (mg : Str → Option Value) (SD : Addr) : Prop where
  at_ : mg "SHAPES" = some (.ref SD)
  dic : ∃ es n, KDict K w SD es n
  val : ∀ s ∈ SHL, ∃ T : Addr, PySem.W.nsIn K SD s.1 = some (some (.ref T)) ∧ ∀ H, SqT K H T (s.2.map V.str)
section
variable {P : Program} {w : World} {K : PySem.W.Frag} {mg : Str → Option Value} {base : Heap}
def spLeafIs (K : PySem.W.Frag) : Sp := fun vs H Q _ => ∃ (x : V) (d : PyData) (l : Nat), vs = [x, .int l] ∧ (l = 1 ∨ l = 2) ∧ Dp K H x d ∧
  ((LeafL l d ∧ ∀ H', Same H H' → Q (.bl true) H') ∨ ((∃ u items, d = .tuple (.str u :: items) ∧ (u = "if" ∨ u = "repeat")) ∧ ∀ H', Same H H' → Q (.bl false) H'))
abbrev NLf : List Str := ["value", "layers", "word", "items"]
theorem scLeafIs : FnScope NLf ["value", "layers"] (defScope s_is_leaf) := ⟨rfl, rfl, rfl, by decide +kernel, rfl, by decide +kernel, by decide +kernel⟩
theorem ok_leafIs {f fA SD : Addr} {fd fdA : FuncData} (F : FunD K "is_leaf" "is_leaf" (defArgs s_is_leaf) (defBody s_is_leaf) (defScope s_is_leaf) [.int 2] [] f fd) (is : mg "isinstance" = none) (tp : mg "tuple" = none) (st : mg "str" = none) (ST : ShT K w mg SD) (no : ∀ u : Str, u = "if" ∨ u = "repeat" → PySem.W.nsIn K SD u = some none)
    (GA : FnOk P w K mg base CX0 6 fA fdA ["kinds", "values", "layers"] (spAreIt K)) (mA : mg "are_items" = some (.ref fA)) (kA : PySem.W.keepIn K (.ref fA) = true) (bA : Binds K fdA ["kinds", "values", "layers"] []) :
    FnOk P w K mg base CX0 7 f fd ["value", "layers"] (spLeafIs K) := by
  refine F.ok scLeafIs (fun vs H Q E h => ?_) (fun cdv A outer s H vs Q E hr h => ?_)
  · obtain ⟨x, d, l, rfl, _⟩ := h
    rfl
  · obtain ⟨x, d, l, rfl, hl, hx, h⟩ := h
    have nd := scLeafIs.nd
    obtain ⟨es, en, KD⟩ := ST.dic
    have hun : (A.deeper (envOfC "is_leaf" (defScope s_is_leaf) s.heap.objs.size f cdv)).units + 64 < cLine := (hr.mono (by decide : 1 ≤ 6)).units
    refine ⟨_, pss_cons (ps_if (PW.pt (pw_or (pt_not (pt_val (pe_callB call_isi (by rfl) is (by decide +kernel) (pa_cons (pv 0) (pa_cons (pe_bltn (v := .ty "tuple") (by rfl) tp (by decide +kernel) rfl) pa_nil)))))
          (pw_or (pt_not (pt_truth (pv 0) fun _ => rfl)) (pw_or1 (pt_not (pt_val (pe_callB call_isi (by rfl) is (by decide +kernel) (pa_cons (pe_ix ix_tup (pv 0) pe_int fun _ _ => rfl) (pa_cons (pe_bltn (v := .ty "str") (by rfl) st (by decide +kernel) rfl) pa_nil))))))))) pss_false pss_nil)
      (C8.pss_cut (ps_asg (pv 0) (pg_star (n := 2) (i := 1) (by rfl) (pgs_cons (pg_name (i := 2) nd rfl (Or.inl rfl)) (pgs_star (pg_name (i := 3) nd rfl (Or.inl rfl)) pgs_nil))))
      (pss_cons (ps_if (PW.pt (pw_or (pt_cmpR (op_notIn_kd KD) (pv 2) (pe_glob (v := .ref SD) (by rfl) ST.at_ rfl) (by with_unfolding_all rfl)) (pw_or1 (pt_not (pt_val (pe_call GA hr (by rfl) mA kA bA .nil pass0 (pa_cons (pe_ix ix_kdict (pe_glob (v := .ref SD) (by rfl) ST.at_ rfl) (pv 2) (fun _ _ => rfl)) (pa_cons (pv 3) (pa_cons (pv 1) pa_nil))))))))) (pss_one (ps_ret pe_bl)) pss_nil)
      (pss_cons (ps_if (pt_cmpR op_eq (pv 2) pe_str (nomark _)) (pss_one (ps_ret (pe_cmpR op_eq (pv 1) pe_int (nomark _)))) pss_nil)
      (pss_one (ps_ret (pe_or (pe_cmpR op_ne (pv 2) pe_str (nomark _)) (pe_one (pe_cmpR (op_neD hun) (pe_ix ix_list (pv 3) pe_int fun _ _ => rfl) (pe_ix ix_list (pv 3) pe_int fun _ _ => rfl) (nomark _))))))))), ?_⟩
    have hd : ∃ u items, d = .tuple (.str u :: items) := by
      rcases h with ⟨⟨u, ks, items, _, e, _⟩, _⟩ | ⟨⟨u, items, e, _⟩, _⟩ <;> exact ⟨_, _, e⟩
    obtain ⟨u, items, rfl⟩ := hd
    obtain ⟨a, xs, rfl, hT, hds⟩ := dp_tup hx
    obtain ⟨ys, rfl, hys⟩ := dp_word hds
    refine ⟨_, rfl, _, _, _, _, true, rfl, .ty "tuple", tyx_tup hT, kit_ty (by decide +kernel), _, rfl, iteF ?_⟩
    refine ⟨_, rfl, true, .inr (.inl ⟨_, hT, rfl⟩), iteF ?_⟩
    refine ⟨_, rfl, _, _, _, _, rfl, rfl, hT, at0, _, _, _, _, true, rfl, .ty "str", .base (.str u), kit_ty (by decide +kernel), _, rfl, iteF ?_⟩
    refine ⟨fun σ G => ∃ D, σ = [some (.ref a), some (.int (l : Nat)), some (.str u), some (.ref D)] ∧ Same H G ∧ G D = some (.lst ys), ?_, ?_⟩
    · refine ⟨_, rfl, a, _, rfl, .inl hT, by decide, by simp, fun D hD => ?_⟩
      have e1 : (V.str u :: ys).take 1 ++ [V.ref D] ++ ((V.str u :: ys).drop 1).drop ((V.str u :: ys).length + 1 - 2) = [V.str u, .ref D] := by
        have : (V.str u :: ys).length + 1 - 2 = ys.length := by simp
        rw [this]
        simp
      have e2 : ((V.str u :: ys).drop 1).take ((V.str u :: ys).length + 1 - 2) = ys := by
        have : (V.str u :: ys).length + 1 - 2 = ys.length := by simp
        rw [this]
        simp
      rw [e1, e2]
      exact ⟨_, _, rfl, _, _, rfl, rfl, D, rfl, same_upd hD, upd_same⟩
    rintro σ G ⟨D, rfl, sm, hG⟩
    rcases h with ⟨⟨u', ks, items', hm, e, pk, hr2, hsm⟩, q⟩ | ⟨⟨u', items', e, hu⟩, q⟩
    · injection e with e
      injection e with e1 e2
      injection e1 with e1
      subst e1 e2
      obtain ⟨TA, hn, hTA⟩ := ST.val _ hm
      have l4 : ks.length ≤ 4 := (shl_words _ hm).2.2.2
      refine ⟨_, rfl, u, _, rfl, rfl, hn, _, rfl, iteF ?_⟩
      refine ⟨_, rfl, SD, u, .ref TA, rfl, rfl, ⟨es, en, _, KD.at_, KD.lit, hn, rfl⟩, _, rfl, _, rfl, TA, D, ks, items, ys, l, rfl, hl, hTA G, SqL.of hG, DpAll.same sm _ _ hys, pk, by omega, fun G2 s2 => ⟨_, rfl, iteF ?_⟩⟩
      have s02 := sm.trans s2
      refine ⟨_, rfl, rfl, _, rfl, ?_⟩
      rw [str_cmp]
      by_cases hr : u = "ride"
      · rw [decide_eq_true hr]
        refine iteT ⟨_, rfl, rfl, ?_⟩
        rw [hr2 hr]
        exact q G2 s02
      · rw [decide_eq_false hr]
        refine iteF ⟨_, rfl, rfl, ?_⟩
        by_cases hsa : u = "same"
        · obtain ⟨y, z, rfl, hyz⟩ := hsm hsa
          have hys2 := DpAll.same s02 _ _ hys
          cases hys2 with
          | cons b1 hi =>
          cases hi with
          | cons b2 hi =>
          cases hi
          cases b1
          cases b2
          subst hsa
          obtain ⟨k1, k2⟩ : SeqAt.shaped (.str y) = true ∧ SeqAt.shaped (.str z) = true := by
            cases pk with
            | cons p1 t =>
            cases t with
            | cons p2 t => exact ⟨kindL_str p1, kindL_str p2⟩
          refine ⟨false, rfl, ?_⟩
          refine iteF ⟨_, rfl, _, _, _, _, rfl, rfl, SqL.of (s2 _ _ hG), rfl, _, rfl, _, _, _, _, rfl, rfl, SqL.of (s2 _ _ hG), rfl, .str y, .str z, .str y, .str z, k1, k2, ?_⟩
          rw [show PyData.eqv (.str y) (.str z) = false from by simp only [PyData.eqv]; exact beq_false_of_ne hyz]
          exact q G2 s02
        · refine ⟨true, ?_, ?_⟩
          · show V.bl (!decide (V.str u = V.str "same")) = V.bl true
            rw [str_cmp, decide_eq_false hsa]
            rfl
          · exact iteT (q G2 s02)
    · injection e with e
      injection e with e1 e2
      injection e1 with e1
      subst e1 e2
      refine ⟨_, rfl, u, _, rfl, rfl, no u hu, _, rfl, iteT ?_⟩
      exact q G sm
end
end Lw

set_option maxRecDepth 100000
set_option linter.unusedVariables false
namespace Lw
open PySem PySem.Spec PyProof.Rows L2 VG
/-- a step with steps in it: its items -/
def BrL (l : Nat) (d : PyData) : Prop := ∃ (u : Str) (items : List PyData), d = .tuple (.str u :: items) ∧ (u = "if" ∨ u = "repeat") ∧ Paired (KindL l) (brKs u) items
/-- the table of the branches -/
structure BrT (K : PySem.W.Frag) (w : World) (mg : Str → Option Value) (BD : Addr) : Prop where
  at_ : mg "BRANCHES" = some (.ref BD)
  dic : ∃ es n, KDict K w BD es n
  val : ∀ u : Str, u = "if" ∨ u = "repeat" → ∃ T : Addr, PySem.W.nsIn K BD u = some (some (.ref T)) ∧ ∀ H, SqT K H T ((brKs u).map V.str)
section
variable {P : Program} {w : World} {K : PySem.W.Frag} {mg : Str → Option Value} {base : Heap}
def spStepIs (K : PySem.W.Frag) : Sp := fun vs H Q _ => ∃ (x : V) (d : PyData) (l : Nat), vs = [x, .int l] ∧ (l = 1 ∨ l = 2) ∧ Dp K H x d ∧ (LeafL l d ∨ BrL l d) ∧ ∀ H', Same H H' → Q (.bl true) H'
theorem scStepIs : FnScope NLf ["value", "layers"] (defScope s__is_step) := ⟨rfl, rfl, rfl, by decide +kernel, rfl, by decide +kernel, by decide +kernel⟩
theorem ok_stepIs {f fA fL BD : Addr} {fd fdA fdL : FuncData} (F : Fun K "_is_step" "_is_step" s__is_step f fd) (is : mg "isinstance" = none) (tp : mg "tuple" = none) (st : mg "str" = none) (BT : BrT K w mg BD)
    (GA : FnOk P w K mg base CX0 6 fA fdA ["kinds", "values", "layers"] (spAreIt K)) (mA : mg "are_items" = some (.ref fA)) (kA : PySem.W.keepIn K (.ref fA) = true) (bA : Binds K fdA ["kinds", "values", "layers"] [])
    (GL : FnOk P w K mg base CX0 7 fL fdL ["value", "layers"] (spLeafIs K)) (mL : mg "is_leaf" = some (.ref fL)) (kL : PySem.W.keepIn K (.ref fL) = true) (bL : Binds K fdL ["value", "layers"] []) :
    FnOk P w K mg base CX0 8 f fd ["value", "layers"] (spStepIs K) := by
  refine F.ok scStepIs (fun vs H Q E h => ?_) (fun cdv A outer s H vs Q E hr h => ?_)
  · obtain ⟨x, d, l, rfl, _⟩ := h
    rfl
  · obtain ⟨x, d, l, rfl, hl, hx, h, q⟩ := h
    have nd := scStepIs.nd
    obtain ⟨es, en, KD⟩ := BT.dic
    have hr6 : Room 6 _ := hr.mono (by decide)
    refine ⟨_, pss_cons (ps_if (pt_val (pe_call GL hr (by rfl) mL kL bL .nil pass0 (pa_cons (pv 0) (pa_cons (pv 1) pa_nil)))) (pss_one (ps_ret pe_bl)) pss_nil)
      (pss_cons (ps_if (PW.pt (pw_or (pt_not (pt_val (pe_callB call_isi (by rfl) is (by decide +kernel) (pa_cons (pv 0) (pa_cons (pe_bltn (v := .ty "tuple") (by rfl) tp (by decide +kernel) rfl) pa_nil)))))
          (pw_or (pt_not (pt_truth (pv 0) fun _ => rfl)) (pw_or1 (pt_not (pt_val (pe_callB call_isi (by rfl) is (by decide +kernel) (pa_cons (pe_ix ix_tup (pv 0) pe_int fun _ _ => rfl) (pa_cons (pe_bltn (v := .ty "str") (by rfl) st (by decide +kernel) rfl) pa_nil))))))))) pss_false pss_nil)
      (C8.pss_cut (ps_asg (pv 0) (pg_star (n := 2) (i := 1) (by rfl) (pgs_cons (pg_name (i := 2) nd rfl (Or.inl rfl)) (pgs_star (pg_name (i := 3) nd rfl (Or.inl rfl)) pgs_nil))))
      (pss_one (ps_ret (pe_and (pe_cmpR (op_in_kd KD) (pv 2) (pe_glob (v := .ref BD) (by rfl) BT.at_ rfl) (by rfl)) (pe_one (pe_call GA hr6 (by rfl) mA kA bA .nil pass0 (pa_cons (pe_ix ix_kdict (pe_glob (v := .ref BD) (by rfl) BT.at_ rfl) (pv 2) (fun _ _ => rfl)) (pa_cons (pv 3) (pa_cons (pv 1) pa_nil)))))))))), ?_⟩
    rcases h with h | ⟨u, items, rfl, hu, pk⟩
    · refine ⟨_, rfl, _, rfl, x, d, l, rfl, hl, hx, .inl ⟨h, fun H' s' => ⟨_, rfl, iteT (q H' s')⟩⟩⟩
    refine ⟨_, rfl, _, rfl, x, _, l, rfl, hl, hx, .inr ⟨⟨u, items, rfl, hu⟩, fun H0 s0 => ⟨_, rfl, iteF ?_⟩⟩⟩
    obtain ⟨a, xs, rfl, hT0, hds⟩ := dp_tup hx
    obtain ⟨ys, rfl, hys⟩ := dp_word hds
    have hT := Same.tup s0 hT0
    refine ⟨_, rfl, _, _, _, _, true, rfl, .ty "tuple", tyx_tup hT, kit_ty (by decide +kernel), _, rfl, iteF ?_⟩
    refine ⟨_, rfl, true, .inr (.inl ⟨_, hT, rfl⟩), iteF ?_⟩
    refine ⟨_, rfl, _, _, _, _, rfl, rfl, hT, at0, _, _, _, _, true, rfl, .ty "str", .base (.str u), kit_ty (by decide +kernel), _, rfl, iteF ?_⟩
    refine ⟨fun σ G => ∃ D, σ = [some (.ref a), some (.int (l : Nat)), some (.str u), some (.ref D)] ∧ Same H0 G ∧ G D = some (.lst ys), ?_, ?_⟩
    · refine ⟨_, rfl, a, _, rfl, .inl hT, by decide, by simp, fun D hD => ?_⟩
      have e1 : (V.str u :: ys).take 1 ++ [V.ref D] ++ ((V.str u :: ys).drop 1).drop ((V.str u :: ys).length + 1 - 2) = [V.str u, .ref D] := by
        have : (V.str u :: ys).length + 1 - 2 = ys.length := by simp
        rw [this]
        simp
      have e2 : ((V.str u :: ys).drop 1).take ((V.str u :: ys).length + 1 - 2) = ys := by
        have : (V.str u :: ys).length + 1 - 2 = ys.length := by simp
        rw [this]
        simp
      rw [e1, e2]
      exact ⟨_, _, rfl, _, _, rfl, rfl, D, rfl, same_upd hD, upd_same⟩
    rintro σ G ⟨D, rfl, sm, hG⟩
    obtain ⟨TA, hn, hTA⟩ := BT.val u hu
    have lk : (brKs u).length ≤ 10 := by
      unfold brKs
      split <;> decide
    refine ⟨_, rfl, u, _, rfl, rfl, hn, _, rfl, iteT ?_⟩
    exact ⟨_, rfl, BD, u, .ref TA, rfl, rfl, ⟨es, en, _, KD.at_, KD.lit, hn, rfl⟩, _, rfl, _, rfl, TA, D, brKs u, items, ys, l, rfl, hl, hTA G, SqL.of hG, DpAll.same (s0.trans sm) _ _ hys, pk, lk, fun G2 s2 => q G2 (s0.trans (sm.trans s2))⟩
end
end Lw

set_option maxRecDepth 100000
set_option linter.unusedVariables false
namespace Lw
open PySem PySem.Spec PyProof.Rows L2 VG
/-- a step that may stand in a script of l layers, n about one another in it -/
def OkS (l : Nat) : Nat → PyData → Prop
  | 0, d => StD 0 d ∧ LeafL l d
  | n + 1, d => StD (n + 1) d ∧ (LeafL l d ∨ BrL l d) ∧ ∀ e ∈ innerD d, OkS l n e
def DsL (l : Nat) : Nat → List PyData → Prop
  | 0, ds => ds = []
  | n + 1, ds => ∀ d ∈ ds, OkS l n d
theorem okS_std {l n : Nat} {d : PyData} (h : OkS l n d) : StD n d := by
  cases n with
  | zero => exact h.1
  | succ n => exact h.1
theorem okS_form {l n : Nat} {d : PyData} (h : OkS l n d) : LeafL l d ∨ BrL l d := by
  cases n with
  | zero => exact .inl h.2
  | succ n => exact h.2.1
theorem okS_inner {l n : Nat} {d : PyData} (h : OkS l n d) : DsL l n (innerD d) := by
  cases n with
  | zero => exact (inner_std h.1).1
  | succ n => exact h.2.2
section
variable {P : Program} {w : World} {K : PySem.W.Frag} {mg : Str → Option Value} {base : Heap}
def spChk (K : PySem.W.Frag) : Nat → Sp
  | 0 => fun _ _ _ _ => False
  | n + 1 => fun vs H Q _ => ∃ (x : V) (ds : List PyData) (l : Nat) (p : Addr) (ps : List V), vs = [x, .int l, .ref p] ∧ (l = 1 ∨ l = 2) ∧ Dp K H x (.tuple ds) ∧ DsL l n ds ∧ ds.length ≤ 30 ∧ SqT K H p ps ∧ ps.length + n ≤ 3 ∧ ∀ H', Same H H' → Q .non H'
abbrev NCk : List Str := ["values", "layers", "path", "at", "value", "here"]
theorem scChk : FnScope NCk ["values", "layers", "path"] (defScope s_check_steps) := ⟨rfl, rfl, rfl, by decide +kernel, rfl, by decide +kernel, by decide +kernel⟩
theorem ok_chk {f fS fI : Addr} {fd fdS fdI : FuncData} {dvs : List V} {u : Value} (F : FunD K "check_steps" "check_steps" (defArgs s_check_steps) (defBody s_check_steps) (defScope s_check_steps) dvs [] f fd) (en : mg "enumerate" = none) (ln : mg "len" = none) (mM : mg "MOST_DEEP" = some u) (rM : RelV (.int 3) u)
    (GS : FnOk P w K mg base CX0 8 fS fdS ["value", "layers"] (spStepIs K)) (mS : mg "_is_step" = some (.ref fS)) (kS : PySem.W.keepIn K (.ref fS) = true) (bS : Binds K fdS ["value", "layers"] [])
    (GI : FnOk P w K mg base CX0 1 fI fdI ["step"] (spInner K)) (mI : mg "inner_steps" = some (.ref fI)) (kI : PySem.W.keepIn K (.ref fI) = true) (bI : Binds K fdI ["step"] [])
    (mC : mg "check_steps" = some (.ref f)) (kC : PySem.W.keepIn K (.ref f) = true) (bC : Binds K fd ["values", "layers", "path"] []) : ∀ n, FnOk P w K mg base CX0 (n + 8) f fd ["values", "layers", "path"] (spChk K n)
  | 0 => F.ok scChk (fun vs H Q E h => h.elim) (fun cdv A outer s H vs Q E hr h => h.elim)
  | n + 1 => by
    have ih := ok_chk F en ln mM rM GS mS kS bS GI mI kI bI mC kC bC n
    refine F.ok scChk (fun vs H Q E h => ?_) (fun cdv A outer s H vs Q E hr h => ?_)
    · obtain ⟨x, ds, l, p, ps, rfl, _⟩ := h
      rfl
    · obtain ⟨x, ds, l, p, ps, rfl, hl, hx, hD, l10, hp, l3, q⟩ := h
      have nd := scChk.nd
      have hr1 : Room 1 _ := hr.mono (by omega)
      have hr8 : Room 8 _ := hr.mono (by omega)
      refine ⟨_, PSs.nox (pss_one (ps_for PassesOwn.never rfl (pi_enumG (by rfl) en (pa_cons (pv 0) pa_nil)) (pg_tup (by rfl) (pgs_cons (pg_name (i := 3) nd rfl (Or.inl rfl)) (pgs_cons (pg_name (i := 4) nd rfl (Or.inl rfl)) pgs_nil)))
        (pss_cons (ps_set (i := 5) nd rfl (Or.inl rfl) (pe_tup (StX.pa_star (pv 2) (pa_cons (pv 3) pa_nil))))
        (pss_cons (ps_if (PW.pt (pw_or (pt_cmpR op_gt (pe_callB call_len_seq (by rfl) ln PySem.boot_len (pa_cons (pv 5) pa_nil)) (pe_glob (v := .int 3) (by rfl) mM rM) (nomark _)) (pw_or1 (pt_not (pt_val (pe_call GS hr8 (by rfl) mS kS bS .nil pass0 (pa_cons (pv 4) (pa_cons (pv 1) pa_nil)))))))) pss_false pss_nil)
        (pss_one (ps_expr (pe_call ih hr (by rfl) mC kC bC .nil pass0 (pa_cons (pe_call GI hr1 (by rfl) mI kI bI .nil pass0 (pa_cons (pv 4) pa_nil)) (pa_cons (pv 1) (pa_cons (pv 5) pa_nil)))))))) )), ?_⟩
      obtain ⟨a, xs, rfl, hT, hds⟩ := dp_tup hx
      have lx := DpAll.len hds
      refine ⟨_, rfl, a, .t, xs, rfl, hT, for_enumG (K := K) (k := .t) (a := a) (xs := xs) (fun i σ G => ∃ o3 o4 o5 : Option V, σ = [some (.ref a), some (.int (l : Nat)), some (.ref p), o3, o4, o5] ∧ Same H G) ⟨_, _, _, rfl, Same.refl H⟩ (fun i σ G ⟨_, _, _, _, sm⟩ => Kd.same (k := .t) sm hT) ?_ ?_⟩
      · rintro i v T σ G hv ⟨o3, o4, o5, rfl, sm⟩ hTn
        obtain ⟨d, hdi, hvd⟩ := DpAll.at' hds hv
        have hm := List.mem_of_getElem? hdi
        have mT := same_upd (o := .tup [.int (i : Nat), v]) hTn
        have s1 := sm.trans mT
        refine ⟨_, _, rfl, SqT.of upd_same, rfl, _, _, rfl, _, _, rfl, rfl, ?_⟩
        cases n with
        | zero =>
          rw [show ds = [] from hD] at hm
          cases hm
        | succ m =>
          have hd : OkS l m d := hD d hm
          refine ⟨_, rfl, p, ps, rfl, .inl (Same.tup s1 hp), _, rfl, ?_, fun T2 hT2 => ?_⟩
          · rw [List.length_append]
            exact Nat.le_trans (show ps.length + 1 ≤ 3 by omega) (by decide)
          have mT2 := same_upd (o := .tup (ps ++ [.int (i : Nat)])) hT2
          have s2 := s1.trans mT2
          refine ⟨_, rfl, T2, _, rfl, .inr (SqT.of upd_same), _, _, rfl, rfl, _, rfl, ?_⟩
          rw [decide_eq_false (by rw [List.length_append]; show ¬ ((3 : Int) < ((ps.length + 1 : Nat) : Int)); omega)]
          refine iteF ⟨_, rfl, _, rfl, v, d, l, rfl, hl, Dp.same s2 _ _ hvd, okS_form hd, fun G3 s3 => ⟨_, rfl, iteF ?_⟩⟩
          obtain ⟨_, il⟩ := inner_std (okS_std hd)
          refine ⟨_, rfl, v, m, d, rfl, Dp.same (s2.trans s3) _ _ hvd, okS_std hd, fun y G4 s4 hy => ?_⟩
          refine ⟨_, rfl, _, rfl, y, innerD d, l, T2, ps ++ [.int (i : Nat)], rfl, hl, hy, okS_inner hd, by omega, Same.tup (s3.trans s4) (SqT.of upd_same), by rw [List.length_append]; show ps.length + 1 + m ≤ 3; omega, fun G5 s5 => ?_⟩
          exact ⟨_, _, _, rfl, s2.trans (s3.trans (s4.trans s5))⟩
      · rintro σ G ⟨o3, o4, o5, rfl, sm⟩
        exact q G sm
end
end Lw

set_option maxRecDepth 100000
set_option linter.unusedVariables false
namespace Lw
open PySem PySem.Spec PyProof.Rows L2 VG
section
variable {P : Program} {w : World} {K : PySem.W.Frag} {mg : Str → Option Value} {base : Heap}
def spCheckLs : Sp := fun vs H Q _ => ∃ l : Nat, vs = [.int l] ∧ (l = 1 ∨ l = 2) ∧ Q .non H
theorem scCheckLs : FnScope ["layers"] ["layers"] (defScope s_check_layers) := ⟨rfl, rfl, rfl, by decide +kernel, rfl, by decide +kernel, by decide +kernel⟩
theorem ok_checkLs {f fM : Addr} {fd fdM : FuncData} (F : Fun K "check_layers" "check_layers" s_check_layers f fd)
    (GM : FnOk P w K mg base CX0 2 fM fdM ["value", "least", "most"] spWithin) (mM : mg "is_number" = some (.ref fM)) (kM : PySem.W.keepIn K (.ref fM) = true) (bM : Binds K fdM ["value", "least", "most"] []) :
    FnOk P w K mg base CX0 3 f fd ["layers"] spCheckLs := by
  refine F.ok scCheckLs (fun vs H Q E h => ?_) (fun cdv A outer s H vs Q E hr h => ?_)
  · obtain ⟨l, rfl, _⟩ := h
    rfl
  · obtain ⟨l, rfl, hl, q⟩ := h
    refine ⟨_, pss_one (ps_if (pt_not (pt_val (pe_call GM hr (by rfl) mM kM bM .nil pass0 (pa_cons (pv 0) (pa_cons pe_int (pa_cons pe_int pa_nil)))))) pss_false pss_nil), ?_⟩
    exact ⟨_, rfl, _, 1, 2, rfl, by omega, by omega, _, rfl, iteF q⟩
end
end Lw

set_option maxRecDepth 100000
set_option linter.unusedVariables false
namespace Lw
open PySem PySem.Spec PyProof.Rows L2 VG
def namesTx (ys : List Str) : Str := if ys = [] then "-" else Txt.join " " ys
theorem join_nil : Txt.join " " [] = ("" : Str) := by decide +kernel
theorem join_pos {y : Str} {ys : List Str} (h : 0 < y.length) : 0 < (Txt.join " " (y :: ys)).length := by
  rw [show Txt.join " " (y :: ys) = Str.join " " (y :: ys) from StrLaws.glued_eq_join _ _]
  cases ys with
  | nil => exact h
  | cons z r =>
    show 0 < (y ++ " " ++ Str.join " " (z :: r)).length
    rw [Str.length_append, Str.length_append]
    omega
theorem names_len {ys : List Str} (h5 : ys.length ≤ 5) (hy : ∀ y ∈ ys, y.length ≤ 5) : (ys.map (·.length)).sum ≤ 25 := by
  have : ∀ (zs : List Str), (∀ y ∈ zs, y.length ≤ 5) → (zs.map (·.length)).sum ≤ 5 * zs.length := by
    intro zs
    induction zs with
    | nil => intro _; exact Nat.le_refl _
    | cons z r ih =>
      intro h
      have a := h z List.mem_cons_self
      have b := ih fun y hy => h y (List.mem_cons_of_mem _ hy)
      simp only [List.map_cons, List.sum_cons, List.length_cons]
      omega
  have := this ys hy
  omega
theorem namesTx_len {ys : List Str} (h5 : ys.length ≤ 5) (hy : ∀ y ∈ ys, y.length ≤ 5) : (namesTx ys).length ≤ 30 := by
  unfold namesTx
  by_cases h : ys = []
  · rw [if_pos h]
    decide +kernel
  · rw [if_neg h, show Txt.join " " ys = Str.join " " ys from StrLaws.glued_eq_join _ _]
    have a := StrLaws.join_length_le " " ys
    have b := names_len h5 hy
    have c : ((" " : Str)).length = 1 := by decide +kernel
    rw [c] at a
    omega
section
variable {P : Program} {w : World} {K : PySem.W.Frag} {mg : Str → Option Value} {base : Heap}
def spNamesT (K : PySem.W.Frag) : Sp := fun vs H Q _ => ∃ (L : Addr) (ys : List Str), vs = [.ref L] ∧ SqL K H L (ys.map V.str) ∧ ys.length ≤ 5 ∧ (∀ y ∈ ys, 0 < y.length ∧ y.length ≤ 5) ∧ Q (.str (namesTx ys)) H
theorem scNamesT : FnScope ["names"] ["names"] (defScope s_names_text) := ⟨rfl, rfl, rfl, by decide +kernel, rfl, by decide +kernel, by decide +kernel⟩
theorem ok_namesT {f : Addr} {fd : FuncData} (F : Fun K "names_text" "names_text" s_names_text f fd) : FnOk P w K mg base CX0 1 f fd ["names"] (spNamesT K) := by
  refine F.ok scNamesT (fun vs H Q E h => ?_) (fun cdv A outer s H vs Q E hr h => ?_)
  · obtain ⟨L, ys, rfl, _⟩ := h
    rfl
  · obtain ⟨L, ys, rfl, hL, h5, hy, q⟩ := h
    refine ⟨_, pss_one (ps_ret (pe_orT (pe_join pe_str (pv 0)) (pe_one pe_str))), ?_⟩
    have b := names_len h5 fun y h => (hy y h).2
    have c : ((" " : Str)).length = 1 := by decide +kernel
    refine ⟨⟨_, rfl⟩, _, rfl, _, L, ys, rfl, rfl, .inl hL, by rw [c]; omega, ?_⟩
    cases ys with
    | nil =>
      rw [join_nil]
      exact ⟨false, ⟨by decide +kernel, by decide +kernel⟩, iteF q⟩
    | cons y ys =>
      have q : Q (.str (Txt.join " " (y :: ys))) H := by
        have e : namesTx (y :: ys) = Txt.join " " (y :: ys) := if_neg (by simp)
        rw [e] at q
        exact q
      have l1 : (Txt.join " " (y :: ys)).length ≤ 30 := by
        have z := namesTx_len h5 fun y h => (hy y h).2
        rw [show namesTx (y :: ys) = Txt.join " " (y :: ys) from if_neg (by simp)] at z
        exact z
      have l2 : 0 < (Txt.join " " (y :: ys)).length := join_pos (hy y List.mem_cons_self).1
      exact ⟨true, ⟨by rw [sizeLine_eq]; omega, (bne_iff_ne.mpr (by omega)).symm⟩, iteT q⟩
end
end Lw

set_option maxRecDepth 100000
set_option linter.unusedVariables false
namespace Lw
open PySem PySem.Spec PyProof.Rows L2 VG
theorem knownI_snoc {ks : List Str} {items : List PyData} {i : Nat} {kd : Str} {d : PyData} (h1 : ks[i]? = some kd) (h2 : items[i]? = some d) : knownI (ks.take (i + 1)) (items.take (i + 1)) = knownI (ks.take i) (items.take i) ++ (if kd = "name" then [strD d] else []) := by
  have l1 := (List.getElem?_eq_some_iff.mp h1).1
  have l2 := (List.getElem?_eq_some_iff.mp h2).1
  unfold knownI
  rw [List.take_add_one, h1, List.take_add_one, h2]
  show (((ks.take i ++ [kd]).zip (items.take i ++ [d])).filter _).map _ = _
  rw [List.zip_append (by rw [List.length_take, List.length_take]; omega), List.filter_append, List.map_append]
  congr 1
  by_cases h : kd = "name"
  · rw [if_pos h]
    simp [h]
  · rw [if_neg h]
    simp [h]
section
variable {P : Program} {w : World} {K : PySem.W.Frag} {mg : Str → Option Value} {base : Heap}
def spKnown (K : PySem.W.Frag) : Sp := fun vs H Q _ => ∃ (x : V) (u : Str) (ks : List Str) (items : List PyData) (l : Nat), vs = [x] ∧ Dp K H x (.tuple (.str u :: items)) ∧ ((u, ks) ∈ SHL ∨ ((u = "if" ∨ u = "repeat") ∧ ks = brKs u)) ∧ Paired (KindL l) ks items ∧
  ∀ (L : Addr) (H' : Hp), H L = none → Same H H' → H' L = some (.lst (tVs (knownI ks items))) → Q (.ref L) H'
abbrev NKn : List Str := ["step", "word", "items", "kinds", "kind", "item"]
theorem scKnown : FnScope NKn ["step"] (defScope s_known_names) := ⟨rfl, rfl, rfl, by decide +kernel, rfl, by decide +kernel, by decide +kernel⟩
theorem ok_known {f SD BD : Addr} {fd : FuncData} (F : Fun K "known_names" "known_names" s_known_names f fd) (zi : mg "zip" = none) (ST : ShT K w mg SD) (BT : BrT K w mg BD) (no : ∀ s ∈ SHL, PySem.W.nsIn K BD s.1 = some none) :
    FnOk P w K mg base CX0 1 f fd ["step"] (spKnown K) := by
  refine F.ok scKnown (fun vs H Q E h => ?_) (fun cdv A outer s H vs Q E hr h => ?_)
  · obtain ⟨x, u, ks, items, l, rfl, _⟩ := h
    rfl
  · obtain ⟨x, u, ks, items, l, rfl, hx, hu, pk, q⟩ := h
    have nd := scKnown.nd
    obtain ⟨es, en, KD⟩ := ST.dic
    obtain ⟨es2, en2, KB⟩ := BT.dic
    refine ⟨_, C8.pss_cut (ps_asg (pv 0) (pg_star (n := 2) (i := 1) (by rfl) (pgs_cons (pg_name (i := 1) nd rfl (Or.inl rfl)) (pgs_star (pg_name (i := 2) nd rfl (Or.inl rfl)) pgs_nil))))
      (C8.pss_cut (ps_set (i := 3) nd rfl (Or.inl rfl) (pe_ifExp (pt_cmpR (op_in_kd KB) (pv 1) (pe_glob (v := .ref BD) (by rfl) BT.at_ rfl) (by rfl)) (pe_ix ix_kdict (pe_glob (v := .ref BD) (by rfl) BT.at_ rfl) (pv 1) (fun _ _ => rfl)) (pe_ix ix_kdict (pe_glob (v := .ref SD) (by rfl) ST.at_ rfl) (pv 1) (fun _ _ => rfl))))
      (pss_one (ps_ret (pe_lc (own := [("kind", 4), ("item", 5)]) (g := gTup K 2 (gCons (gName 4) (gCons (gName 5) gNil))) (tt := _) rfl nd (show PI _ _ _ (iZipG K _) from pi_zipG (by rfl) zi (pa_cons (pv 3) (pa_cons (pv 2) pa_nil)))
        (blkOk_by (own := [("kind", 4), ("item", 5)]) (N := NKn) (sc := defScope s_known_names) (by decide +kernel)) (fun _ _ _ _ _ => pg_tup (by rfl) (pgs_cons (pg_name (i := 4) nd rfl (by first | exact Or.inl rfl | exact Or.inr rfl)) (pgs_cons (pg_name (i := 5) nd rfl (by first | exact Or.inl rfl | exact Or.inr rfl)) pgs_nil)))
        (fun _ _ _ _ _ => pts_one (pt_cmpR op_eq (pv 4) pe_str (nomark _))) (fun _ _ _ _ _ => pv 5))))), ?_⟩
    obtain ⟨a, xs, rfl, hT, hds⟩ := dp_tup hx
    obtain ⟨ys, rfl, hys⟩ := dp_word hds
    refine ⟨fun σ G => ∃ D, σ = [some (.ref a), some (.str u), some (.ref D), none, none, none] ∧ Same H G ∧ G D = some (.lst ys), ?_, ?_⟩
    · refine ⟨_, rfl, a, _, rfl, .inl hT, by decide, by simp, fun D hD => ?_⟩
      have e1 : (V.str u :: ys).take 1 ++ [V.ref D] ++ ((V.str u :: ys).drop 1).drop ((V.str u :: ys).length + 1 - 2) = [V.str u, .ref D] := by
        have : (V.str u :: ys).length + 1 - 2 = ys.length := by simp
        rw [this]
        simp
      have e2 : ((V.str u :: ys).drop 1).take ((V.str u :: ys).length + 1 - 2) = ys := by
        have : (V.str u :: ys).length + 1 - 2 = ys.length := by simp
        rw [this]
        simp
      rw [e1, e2]
      exact ⟨_, _, rfl, _, _, rfl, rfl, D, rfl, same_upd hD, upd_same⟩
    rintro σ G ⟨D, rfl, sm, hG⟩
    refine ⟨fun σ G' => ∃ T : Addr, σ = [some (.ref a), some (.str u), some (.ref D), some (.ref T), none, none] ∧ G' = G ∧ ∀ H, SqT K H T (ks.map V.str), ?_, ?_⟩
    · rcases hu with hm | ⟨hu, rfl⟩
      · obtain ⟨TA, hn, hTA⟩ := ST.val _ hm
        exact ⟨_, rfl, u, _, rfl, rfl, no _ hm, _, rfl, iteF ⟨_, rfl, SD, u, .ref TA, rfl, rfl, ⟨es, en, _, KD.at_, KD.lit, hn, rfl⟩, TA, rfl, rfl, hTA⟩⟩
      · obtain ⟨TA, hn, hTA⟩ := BT.val u hu
        exact ⟨_, rfl, u, _, rfl, rfl, hn, _, rfl, iteT ⟨_, rfl, BD, u, .ref TA, rfl, rfl, ⟨es2, en2, _, KB.at_, KB.lit, hn, rfl⟩, TA, rfl, rfl, hTA⟩⟩
    rintro σ G' ⟨T, rfl, rfl, hTA⟩
    have lp := paired_len2 pk
    have ly := DpAll.len hys
    have l10 : ks.length ≤ 10 := by
      rcases hu with hm | ⟨hu, rfl⟩
      · have l4 : ks.length ≤ 4 := (shl_words _ hm).2.2.2
        omega
      · unfold brKs
        split <;> decide
    refine ⟨_, rfl, _, rfl, T, D, .t, .l, ks.map V.str, ys, rfl, hTA _, SqL.of hG, fun L hL => lc_zipG (K := K) (k1 := .t) (k2 := .l) (a := T) (b := D) (xs := ks.map V.str) (ys := ys) (by rw [List.length_map]; omega) (fun i G2 => Same G' G2 ∧ G2 L = some (.lst (tVs (knownI (ks.take i) (items.take i))))) ⟨same_upd hL, upd_same⟩ (fun i G2 _ c => ⟨hTA _, SqL.of (c.1 _ _ hG)⟩) (fun i e v T2 G2 hxi hyi c hT2 => ?_) (fun G2 c => ?_)⟩
    · rw [List.getElem?_map] at hxi
      obtain ⟨kd, hk, rfl⟩ := Option.map_eq_some_iff.mp hxi
      obtain ⟨d, hdi, hvd⟩ := DpAll.at' hys hyi
      obtain ⟨d', hd', kk⟩ := paired_at2 pk hk
      rw [hdi] at hd'
      cases hd'
      have mT := same_upd (o := .tup [.str kd, v]) hT2
      have li := (List.getElem?_eq_some_iff.mp hk).1
      have et := knownI_snoc hk hdi
      refine ⟨_, _, rfl, SqT.of upd_same, rfl, _, _, rfl, _, _, rfl, rfl, ?_⟩
      refine ⟨rfl, _, rfl, rfl, _, rfl, ?_⟩
      rw [str_cmp]
      by_cases e : kd = "name"
      · rw [decide_eq_true e]
        subst e
        rw [if_pos rfl] at et
        have hz : ∃ z, d = .str z := by
          cases kk with
          | old h _ =>
            cases h with
            | name h => exact ⟨_, rfl⟩
        obtain ⟨z, rfl⟩ := hz
        cases hvd
        refine iteT ⟨_, rfl, _, mT _ _ c.2, ?_, fun b o hb => ?_, ?_⟩
        · have : (knownI (ks.take i) (items.take i)).length ≤ i := by
            unfold knownI
            rw [List.length_map]
            refine Nat.le_trans (List.length_filter_le _ _) ?_
            rw [List.length_zip, List.length_take]
            omega
          rw [List.length_map]
          exact Nat.lt_of_le_of_lt this (Nat.lt_of_lt_of_le (show i < 20 by omega) (by decide))
        · rw [upd_ne (ne_of_none hb hL)]
          exact mT _ _ (c.1 _ _ hb)
        · rw [upd_same, et]
          show _ = some (HO.lst (List.map V.str (knownI (ks.take i) (items.take i) ++ [strD (.str z)])))
          rw [List.map_append]
          rfl
      · rw [decide_eq_false e]
        rw [if_neg e, List.append_nil] at et
        refine iteF ⟨c.1.trans mT, ?_⟩
        rw [et]
        exact mT _ _ c.2
    · obtain ⟨s1, hLa⟩ := c
      rw [List.length_map, List.take_length, List.take_of_length_le (by omega)] at hLa
      refine q L G2 ?_ (sm.trans s1) hLa
      cases zz : H L with
      | none => rfl
      | some o =>
        rw [sm _ _ zz] at hL
        cases hL
end
end Lw

set_option maxRecDepth 100000
set_option linter.unusedVariables false
namespace Lw
open PySem PySem.Spec PyProof.Rows L2 VG
/-! the names behind steps, with what goes wrong: pure -/
inductive NbE
  | unknown (z : Str)
  | dup (z : Str)
  | many
  | ends (ps : List Int)
  deriving DecidableEq
def kindsU (u : Str) : List Str := if u = "if" ∨ u = "repeat" then brKs u else (SHL.lookup u).getD []
def knownD : PyData → List Str
  | .tuple (.str u :: items) => knownI (kindsU u) items
  | _ => []
def oneD : PyData → List PyData
  | .tuple [_, _, _, _, _, .tuple d1, _] => d1
  | _ => []
def otherD : PyData → List PyData
  | .tuple [_, _, _, _, _, _, .tuple d2] => d2
  | _ => []
def firstD : PyData → PyData
  | .tuple (_ :: a :: _) => a
  | _ => .none
abbrev NbR := Except NbE (List Str)
def placeE (zs : List Str) (z : Str) : NbR := if z ∈ zs then .error (.dup z) else if zs.length = 5 then .error .many else .ok (zs ++ [z])
abbrev NbB := List Str → List Int → Int → List PyData → NbR
def ifE (B : NbB) (cw : Int) (zs : List Str) (ps : List Int) (d : PyData) : NbR :=
  match B zs ps 0 (oneD d) with
  | .error e => .error e
  | .ok one => match B zs ps (oneD d).length (otherD d) with
    | .error e => .error e
    | .ok other => if other ≠ one ∨ cw ≠ 0 then .error (.ends ps) else .ok one
def repE (B : List Str → NbR) : Nat → List Str → NbR
  | 0, zs => .ok zs
  | k + 1, zs => match B zs with
    | .error e => .error e
    | .ok ys => repE B k ys
def stepE (B : NbB) (cw : PyData → Int) (zs : List Str) (ps : List Int) (d : PyData) : NbR :=
  match (knownD d).find? (fun z => decide (z ∉ zs)) with
  | some z => .error (.unknown z)
  | none => if wordD d = "if" then ifE B (cw d) zs ps d else if wordD d = "repeat" then repE (fun ys => B ys ps 0 (innerD d)) (timesD d).toNat zs else if wordD d = "place" then placeE zs (strD (firstD d)) else .ok (effD zs d)
def listE (S : List Str → List Int → PyData → NbR) : NbB
  | zs, _, _, [] => .ok zs
  | zs, ps, c, d :: ds => match S zs (ps ++ [c]) d with
    | .error e => .error e
    | .ok ys => listE S ys ps (c + 1) ds
def nbE : Nat → NbB
  | 0 => fun zs _ _ _ => .ok zs
  | n + 1 => listE (stepE (nbE n) fun d => cwD "place" (n + 1) [d])
theorem repE_ok {B : List Str → NbR} {k : Nat} {zs ys : List Str} (h : B zs = .ok ys) : repE B (k + 1) zs = repE B k ys := by
  show (match B zs with
    | .error e => Except.error e
    | .ok ys => repE B k ys) = _
  rw [h]
theorem repE_err {B : List Str → NbR} {k : Nat} {zs : List Str} {e : NbE} (h : B zs = .error e) : repE B (k + 1) zs = .error e := by
  show (match B zs with
    | .error e => Except.error e
    | .ok ys => repE B k ys) = _
  rw [h]
theorem listE_ok {S : List Str → List Int → PyData → NbR} {zs ys : List Str} {ps : List Int} {c : Int} {d : PyData} {ds : List PyData} (h : S zs (ps ++ [c]) d = .ok ys) : listE S zs ps c (d :: ds) = listE S ys ps (c + 1) ds := by
  show (match S zs (ps ++ [c]) d with
    | .error e => Except.error e
    | .ok ys => listE S ys ps (c + 1) ds) = _
  rw [h]
theorem listE_err {S : List Str → List Int → PyData → NbR} {zs : List Str} {ps : List Int} {c : Int} {d : PyData} {ds : List PyData} {e : NbE} (h : S zs (ps ++ [c]) d = .error e) : listE S zs ps c (d :: ds) = .error e := by
  show (match S zs (ps ++ [c]) d with
    | .error e => Except.error e
    | .ok ys => listE S ys ps (c + 1) ds) = _
  rw [h]
/-- good names -/
structure Gz (zs : List Str) : Prop where
  nm : ∀ z ∈ zs, nmB z
  few : zs.length ≤ 5
theorem dsl_left {l n : Nat} {a b : List PyData} (h : DsL l n (a ++ b)) : DsL l n a ∧ DsL l n b := by
  cases n with
  | zero =>
    have h : a ++ b = [] := h
    exact ⟨(List.append_eq_nil_iff.mp h).1, (List.append_eq_nil_iff.mp h).2⟩
  | succ n => exact ⟨fun d hd => h d (List.mem_append_left _ hd), fun d hd => h d (List.mem_append_right _ hd)⟩
theorem stds_left {n : Nat} {a b : List PyData} (h : StDs n (a ++ b)) : StDs n a ∧ StDs n b := by
  cases n with
  | zero =>
    have h : a ++ b = [] := h
    exact ⟨(List.append_eq_nil_iff.mp h).1, (List.append_eq_nil_iff.mp h).2⟩
  | succ n => exact ⟨fun d hd => h d (List.mem_append_left _ hd), fun d hd => h d (List.mem_append_right _ hd)⟩
theorem dsl_std {l n : Nat} {ds : List PyData} (h : DsL l n ds) : StDs n ds := by
  cases n with
  | zero => exact h
  | succ n => exact fun d hd => okS_std (h d hd)
theorem if_form {n : Nat} {d : PyData} (h : StD n d) (e : wordD d = "if") : ∃ a1 a2 a3 a4 d1 d2, d = .tuple [.str "if", a1, a2, a3, a4, .tuple d1, .tuple d2] ∧ innerD d = oneD d ++ otherD d ∧ oneD d = d1 ∧ otherD d = d2 ∧ d1.length ≤ 12 ∧ d2.length ≤ 12 := by
  rcases step_of h with ⟨u, items, rfl, h1, h2⟩ | ⟨a1, a2, a3, a4, d1, d2, rfl, _, l1, l2⟩ | ⟨k, d1, rfl, _, _, _, _⟩
  · exact absurd e h1
  · exact ⟨a1, a2, a3, a4, d1, d2, rfl, inner_if, rfl, rfl, l1, l2⟩
  · exact absurd e (by decide +kernel : ("repeat" : Str) ≠ "if")
theorem form_u {l : Nat} {d : PyData} (h : LeafL l d ∨ BrL l d) : ∃ u ks items, d = .tuple (.str u :: items) ∧ wordD d = u ∧ kindsU u = ks ∧ ((u, ks) ∈ SHL ∨ ((u = "if" ∨ u = "repeat") ∧ ks = brKs u)) ∧ Paired (KindL l) ks items := by
  rcases h with ⟨u, ks, items, hm, rfl, hk, _⟩ | ⟨u, items, rfl, hu, hk⟩
  · refine ⟨u, ks, items, rfl, rfl, ?_, .inl hm, hk⟩
    obtain ⟨_, n1, n2, _⟩ := shl_words _ hm
    have n1 : u ≠ "if" := n1
    have n2 : u ≠ "repeat" := n2
    unfold kindsU
    rw [if_neg fun e => e.elim n1 n2]
    have look : ∀ s ∈ SHL, (SHL.lookup s.1).getD [] = s.2 := by decide +kernel
    exact look _ hm
  · refine ⟨u, brKs u, items, rfl, rfl, ?_, .inr ⟨hu, rfl⟩, hk⟩
    unfold kindsU
    rw [if_pos hu]
theorem place_form {l : Nat} {d : PyData} (h : LeafL l d ∨ BrL l d) (e : wordD d = "place") : ∃ z r, d = .tuple (.str "place" :: .str z :: r) ∧ nmB z := by
  obtain ⟨u, ks, items, rfl, ew, _, hm, hk⟩ := form_u h
  have e : u = "place" := e
  subst e
  rcases hm with hm | ⟨hu, _⟩
  · have ek : ks = (["new", "name", "length", "length"] : List Str) := (show ∀ s ∈ SHL, s.1 = "place" → s.2 = (["new", "name", "length", "length"] : List Str) by decide +kernel) _ hm rfl
    subst ek
    cases hk with
    | cons a t =>
      cases a with
      | old ha _ =>
        cases ha with
        | new hz => exact ⟨_, _, rfl, hz⟩
  · rcases hu with hu | hu
    · exact absurd hu (by decide +kernel)
    · exact absurd hu (by decide +kernel)
theorem gz_sub {zs ys : List Str} (g : Gz zs) (h : ys.Sublist zs) : Gz ys := ⟨fun z hz => g.nm z (h.subset hz), Nat.le_trans h.length_le g.few⟩
theorem eff_gz {zs : List Str} {d : PyData} (n : wordD d ≠ "place") (g : Gz zs) : Gz (effD zs d) := by
  unfold effD
  split
  · rename_i u items
    have n : u ≠ "place" := n
    rw [if_neg n]
    split
    · exact gz_sub g List.filter_sublist
    · exact g
  · exact g
theorem place_gz {zs ys : List Str} {z : Str} (hz : nmB z) (g : Gz zs) (e : placeE zs z = .ok ys) : Gz ys := by
  unfold placeE at e
  split at e
  · cases e
  · split at e
    · cases e
    · rename_i n5
      cases e
      refine ⟨fun y hy => ?_, ?_⟩
      · rcases List.mem_append.mp hy with hy | hy
        · exact g.nm y hy
        · rw [List.mem_singleton.mp hy]
          exact hz
      · rw [List.length_append]
        have := g.few
        show zs.length + 1 ≤ 5
        omega
theorem rep_gz {B : List Str → NbR} (hB : ∀ zs ys, Gz zs → B zs = .ok ys → Gz ys) : ∀ {k : Nat} {zs ys : List Str}, Gz zs → repE B k zs = .ok ys → Gz ys
  | 0, zs, ys, g, e => by
    cases e
    exact g
  | k + 1, zs, ys, g, e => by
    unfold repE at e
    cases h : B zs with
    | error x =>
      rw [h] at e
      cases e
    | ok us =>
      rw [h] at e
      exact rep_gz hB (hB zs us g h) e
theorem step_gz {l n : Nat} {B : NbB} {cw : PyData → Int} {zs ys : List Str} {ps : List Int} {d : PyData} (hB : ∀ zs ps c ds ys, DsL l n ds → Gz zs → B zs ps c ds = .ok ys → Gz ys) (h : OkS l n d) (g : Gz zs) (e : stepE B cw zs ps d = .ok ys) : Gz ys := by
  unfold stepE at e
  split at e
  · cases e
  · split at e
    · rename_i w
      obtain ⟨a1, a2, a3, a4, d1, d2, rfl, hi, e1, e2, _⟩ := if_form (okS_std h) w
      have inn := okS_inner h
      rw [hi] at inn
      obtain ⟨i1, i2⟩ := dsl_left inn
      unfold ifE at e
      split at e
      · cases e
      · rename_i one h1
        split at e
        · cases e
        · rename_i other h2
          split at e
          · cases e
          · cases e
            exact hB _ _ _ _ _ i1 g h1
    · split at e
      · exact rep_gz (fun zs ys g e => hB _ _ _ _ _ (okS_inner h) g e) g e
      · split at e
        · rename_i w
          obtain ⟨z, r, rfl, hz⟩ := place_form (okS_form h) w
          exact place_gz hz g e
        · rename_i w
          cases e
          exact eff_gz w g
theorem list_gz {l n : Nat} {S : List Str → List Int → PyData → NbR} (hS : ∀ zs ps d ys, OkS l n d → Gz zs → S zs ps d = .ok ys → Gz ys) : ∀ {ds : List PyData} {zs ys : List Str} {ps : List Int} {c : Int}, (∀ d ∈ ds, OkS l n d) → Gz zs → listE S zs ps c ds = .ok ys → Gz ys
  | [], zs, ys, ps, c, _, g, e => by
    cases e
    exact g
  | d :: ds, zs, ys, ps, c, h, g, e => by
    unfold listE at e
    cases q : S zs (ps ++ [c]) d with
    | error x =>
      rw [q] at e
      cases e
    | ok us =>
      rw [q] at e
      exact list_gz hS (fun x hx => h x (List.mem_cons_of_mem _ hx)) (hS _ _ _ _ (h d List.mem_cons_self) g q) e
theorem nb_gz {l : Nat} : ∀ {n : Nat} {zs : List Str} {ps : List Int} {c : Int} {ds : List PyData} {ys : List Str}, DsL l n ds → Gz zs → nbE n zs ps c ds = .ok ys → Gz ys
  | 0, zs, ps, c, ds, ys, h, g, e => by
    cases e
    exact g
  | n + 1, zs, ps, c, ds, ys, h, g, e => list_gz (l := l) (n := n) (fun zs ps d ys ho g e => step_gz (l := l) (n := n) (fun zs ps c ds ys hd g e => nb_gz hd g e) ho g e) h g e
/-! what is raised -/
def unkE (d : PyData) : List (Str × PyData) := [("code", .str "UnknownName"), ("name", d)]
def dupE (d : PyData) : List (Str × PyData) := [("code", .str "DuplicateName"), ("name", d)]
def manyE (z : Str) (n : Int) : List (Str × PyData) := [("code", .str "TooMany"), ("most", .int n), ("subject", .str z)]
def endsE (d : PyData) : List (Str × PyData) := [("code", .str "UnlikeEnds"), ("path", d)]
def nbFl : NbE → List (Str × PyData)
  | .unknown z => unkE (.str z)
  | .dup z => dupE (.str z)
  | .many => manyE "names" 5
  | .ends ps => endsE (.tuple (ps.map PyData.int))
def nbC (CU CD CM CE : Addr) : NbE → Addr
  | .unknown _ => CU
  | .dup _ => CD
  | .many => CM
  | .ends _ => CE
def NbOut (K : PySem.W.Frag) (CU CD CM CE : Addr) (H : Hp) (E : XK) (e : NbE) : Prop := ∀ (dd : Addr) (H' : Hp), Same H H' → ErrD K H' dd (nbFl e) → E (.ref (nbC CU CD CM CE e)) (some dd) H'
/-- what is told of names behind steps -/
def NbQ (K : PySem.W.Frag) (CU CD CM CE : Addr) (r : NbR) (H : Hp) (Q : VK) (E : XK) : Prop :=
  (∀ ys, r = .ok ys → ∀ (L : Addr) (H' : Hp), Same H H' → SqL K H' L (tVs ys) → Q (.ref L) H') ∧ ∀ e, r = .error e → NbOut K CU CD CM CE H E e
theorem NbQ.sub {K : PySem.W.Frag} {CU CD CM CE : Addr} {r : NbR} {H G : Hp} {Q : VK} {E : XK} (s : Same H G) (h : NbQ K CU CD CM CE r H Q E) : NbQ K CU CD CM CE r G Q E :=
  ⟨fun ys e L H' s2 hl => h.1 ys e L H' (s.trans s2) hl, fun e er dd H' s2 hd => h.2 e er dd H' (s.trans s2) hd⟩
end Lw

set_option maxRecDepth 100000
/-! enumerate(xs, start=k), xs a list or a tuple. -/
namespace VG
open PySem PySem.Spec PyProof.Rows L2
section
variable {M : Model} {A : Around} {E : Value → Shared → Prop} {s : Shared} {env : Env}
theorem callWith_typeKw {pos : Pos} {T : String} {e : Expr} {rest : List Expr} {kws : List Keyword} {Q : Value → Shared → Prop}
    (h : wpAny M A (spliced (backTo pos (starEach (e :: rest) env))) (fun vs s₁ => wpAny M A (evalAll ((backToKw pos (keywordEach kws env)).map (·.2)))
      (fun kvs s₂ => wpAny M A (call (.type T) vs (((backToKw pos (keywordEach kws env)).filterMap (·.1)).zip kvs)) Q E s₂) E s₁) E s)
    (he : backTo pos (starEach (e :: rest) env) = (false, eval e env) :: backTo pos (starEach rest env) := by rfl)
    (hplain : (backTo pos (starEach (e :: rest) env)).any (·.1) = false := by rfl)
    (hall : (backToKw pos (keywordEach kws env)).all (·.1.isSome) = true := by rfl)
    (hkw : (backToKw pos (keywordEach kws env)).any (·.1.isNone) = false := by rfl) :
    wpAny M A (callWith pos (.type T) [] (backTo pos (starEach (e :: rest) env)) (backToKw pos (keywordEach kws env))) Q E s := by
  have h2 : wpAny M A (evalArgs (.type T) true (backTo pos (starEach (e :: rest) env)) (backToKw pos (keywordEach kws env))) (fun a s₁ => wpAny M A (call (.type T) ([] ++ a.pos) a.kw) Q E s₁) E s := by
    rw [he] at h ⊢
    exact evalArgs_kwB hall h
  unfold callWith
  refine wpAny_bind (wpAny_holding (wpAny_mono h2 (fun a s₁ h₁ => wpAny_bind (wpAny_standAt ?_)) fun _ _ x => x))
  simp only [hplain, hkw, Bool.or_false]
  refine wpAny_bind (wpAny_pure ?_)
  exact wpAny_bind (wpAny_mono h₁ (fun r s₂ hr => wpAny_bind (wpAny_holding (wpAny_point (wpAny_pure hr)))) fun _ _ x => x)
end
/-- the items of a sequence, with their numbers from c on, in new pairs -/
def IteC (K : PySem.W.Frag) (k : Kd) (a : Addr) (c : Int) : It :=
  ⟨fun i H => ∃ (xs : List V) (x : V), k.sq K H a xs ∧ xs[i]? = some x, fun i H v H' => ∃ T x, v = .ref T ∧ H T = none ∧ H' = upd H T (.tup [.int (c + (i : Nat)), x]) ∧ ∀ xs, k.sq K H a xs → xs[i]? = some x, fun i H => ∃ xs : List V, k.sq K H a xs ∧ xs.length = i⟩
theorem turn_enumC {P : Program} {w : World} {K : PySem.W.Frag} {elts : List Expr} {kk : Nat} {tpos : Pos} {k : Kd} {a e it : Addr} {c : Int} (n1 : a ≠ it) (n2 : a ≠ e) (n3 : e ≠ it) :
    Turn P w K (.Tuple elts kk tpos) (IteC K k a c) [e, it] e (fun i h => (∃ old, IsEnum h e it (c + (i : Nat)) old) ∧ k.iter h it a i) where
  mem := by simp
  obj := fun i h st b hb => by
    obtain ⟨⟨old, he⟩, hi⟩ := st
    rcases (show b = e ∨ b = it by simpa using hb) with rfl | rfl
    · exact ⟨_, he, fun v q => nomatch q⟩
    · exact Kd.ito hi
  keep := fun i h h' st f => by
    obtain ⟨⟨old, he⟩, hi⟩ := st
    exact ⟨⟨old, f e (by simp) _ he⟩, Kd.itk hi fun o q => f it (by simp) o q⟩
  item := by
    intro X hP hw hK hc i pins s σ H E I hf st hg
    subst hP hw hK
    obtain ⟨⟨old, he⟩, hit⟩ := st
    obtain ⟨xs, x, hq, hx⟩ := hg
    obtain ⟨its, rv, p, _⟩ := Kd.of I hq
    obtain ⟨u, hu, ru⟩ := rv.get hx
    have hel : e < s.heap.objs.size := Heap.lt_size he
    have hil : it < s.heap.objs.size := by
      obtain ⟨_, q, _⟩ := Kd.ito hit
      exact Heap.lt_size q
    have lt : i < its.toArray.size := by
      obtain ⟨q, _⟩ := List.getElem?_eq_some_iff.mp hu
      simpa using q
    refine wpAny_pyNext_enum_itemC (Kd.draws (A := X.A.in1) (I.ok.hd hc) it a n1 its.toArray k) he ⟨hit, p⟩ lt n3 (by simp [n3, n2.symm]) fun v h' tk q1 ho hs hT hsz hk => ?_
    have ev : v = u := by
      have q1 : its.toArray[i]? = some v := q1
      rw [show its.toArray[i]? = some u by simpa using hu] at q1
      exact (Option.some.inj q1).symm
    subst ev
    refine ⟨_, rfl, wpAny_letOwnedTupleGo_enum (s := { s with heap := h', toks := tk + 1 }) ho fun h'' he' sb => ?_⟩
    have hT2 : h''.get? s.heap.objs.size = some { cls := .type "tuple", data := .seq #[.int (c + (i : Nat)) tk, v] } := (sb.2 _ (Nat.ne_of_gt hel)).trans hT
    have I1 : Inv X pins σ (upd H s.heap.objs.size (.tup [.int (c + (i : Nat)), x])) { s with heap := h'', toks := tk + 1 } :=
      I.turnedNew (ch := [e, it]) (fun b ob hb q => (sb.2 b (fun z => hb (by simp [z]))).trans (hk b ob (fun z => hb (by simp [z])) (fun z => hb (by simp [z])) q)) hf (Nat.le_refl _)
        ⟨by show 2 ≤ sizeLine; decide, [.int (c + (i : Nat)) tk, v], .cons ⟨_, rfl⟩ (.cons ru .nil), ⟨_, hT2, rfl, _, rfl⟩⟩
    refine ⟨.ref s.heap.objs.size, _, I1, rfl, ⟨_, x, rfl, I.hok.fresh (Nat.le_refl _), rfl, fun ys hy => by rw [Kd.inj I hy hq]; exact hx⟩, ⟨⟨v, ?_⟩, Kd.itk hs.1 fun o q => (sb.2 it (Ne.symm n3)).trans q⟩, fun b hb => ?_⟩
    · have e1 : c + ((i + 1 : Nat) : Int) = c + (i : Nat) + 1 := by omega
      rw [e1]
      exact he'
    · have hb' : b < s.heap.objs.size := by
        rcases (show b = e ∨ b = it by simpa using hb) with rfl | rfl
        · exact hel
        · exact hil
      rw [upd_ne (Nat.ne_of_lt hb')]
      exact (hf b hb).1
  done := by
    intro X hP hw hK hc i pins s σ H E I hf st hg
    subst hP hw hK
    obtain ⟨⟨old, he⟩, hit⟩ := st
    obtain ⟨xs, hq, hl⟩ := hg
    obtain ⟨its, rv, p, _⟩ := Kd.of I hq
    have l1 : its.toArray.size = i := by
      have := rv.length
      simp
      omega
    subst l1
    refine wpAny_pyNext_enum_endD (Kd.draws (A := X.A.in1) (I.ok.hd hc) it a n1 its.toArray k) he ⟨hit, p⟩ fun h' eb => ⟨rfl, I.turnedL (t' := s.toks) (ch := [e, it]) (fun b o hb q => eb b o (fun z => hb (by simp [z])) q) hf⟩
  self := fun A i s Q E st h => by
    obtain ⟨⟨_, he⟩, _⟩ := st
    exact wpAny_pyIter_enum he h
def iEnumC (K : PySem.W.Frag) (ta tk : TA) : TI := fun σ H R => ta σ H fun vs H1 => tk σ H1 fun zs H2 => ∃ a k xs c, vs = [.ref a] ∧ zs = [.int c] ∧ -(2 ^ 63) ≤ c ∧ c < 2 ^ 63 ∧ Kd.sq K H2 a xs k ∧ R (IteC K k a c) H2
theorem pi_enumC {X : Cx} {e : Expr} {kws : List Keyword} {ta tk : TA} {p pos tpos : Pos} {elts : List Expr} {kk : Nat} (hg : Gl X "enumerate") (hm : X.mg "enumerate" = none) (ha : PA X [e] ta) (hk : PK X kws tk)
    (he : backTo pos (starEach [e] X.env) = (false, eval e X.env) :: backTo pos (starEach [] X.env) := by rfl) (hpl : (backTo pos (starEach [e] X.env)).any (·.1) = false := by rfl)
    (hall : (backToKw pos (keywordEach kws X.env)).all (·.1.isSome) = true := by rfl) (hnone : (backToKw pos (keywordEach kws X.env)).any (·.1.isNone) = false := by rfl) (hks : (backToKw pos (keywordEach kws X.env)).filterMap (·.1) = [("start" : Str)] := by rfl) :
    PI X (.Tuple elts kk tpos) (.Call (.Name "enumerate" p) [e] kws pos) (iEnumC X.K ta tk) := by
  refine ⟨fun pins s σ H R I h => ?_⟩
  refine wpAny_Call_Name_kw (ld_blt I hg hm boot_enumerate ?_)
  refine callWith_typeKw (thn (ha.run pos pins s σ H _ I h) fun us s1 ⟨vs, H1, I1, r1, q1⟩ => thn (hk.run pos pins s1 σ H1 _ I1 q1) fun ws s2 ⟨zs, H2, I2, r2, q2⟩ => ?_) he hpl hall hnone
  rw [hks]
  obtain ⟨a, k, xs, c, ex, ez, c0, c1, hq, q⟩ := q2
  subst ex ez
  cases r1 with
  | cons r rr =>
    cases rr
    cases r
    cases r2 with
    | cons g gg =>
      cases gg
      obtain ⟨t, rfl⟩ := _root_.id g
      obtain ⟨its, rv, p', lt⟩ := Kd.of I2 hq
      refine enum_begins_start (Kd.begins a its.toArray k) p' c0 c1 fun h' he hit hz hk => wpAny_pyIter_enum he ?_
      have I3 : Inv X pins σ H2 { s2 with heap := h' } := I2.kept (t' := s2.toks) hk
      refine ⟨s2.heap.objs.size + 1, [s2.heap.objs.size + 1, s2.heap.objs.size], _, _, H2, rfl, I3, turn_enumC (k := k) (a := a) (c := c) (Nat.ne_of_lt lt) (Nat.ne_of_lt (Nat.lt_succ_of_lt lt)) (Nat.succ_ne_self _), ⟨⟨.none, by simpa using he⟩, Kd.start hit⟩, fun b hb => ?_, q⟩
      have hle : s2.heap.objs.size ≤ b := by
        rcases (show b = s2.heap.objs.size + 1 ∨ b = s2.heap.objs.size by simpa using hb) with z | z
        · rw [z]
          exact Nat.le_succ _
        · rw [z]
          exact Nat.le_refl _
      exact I2.fpOk hle (I2.hok.fresh hle)
/-- a loop over enumerate of a sequence, from c on -/
theorem for_enumC {K : PySem.W.Frag} {k : Kd} {a : Addr} {c : Int} {xs : List V} {g : TG} {tb : TS} {D : Ends} {σ : L2.St} {H : Hp} (Pv : Nat → L2.St → Hp → Prop) (h0 : Pv 0 σ H) (hl : ∀ i σ H, Pv i σ H → k.sq K H a xs)
    (hs : ∀ (i : Nat) (x : V) (T : Addr) (σ : L2.St) (H : Hp), xs[i]? = some x → Pv i σ H → H T = none → g (.ref T) σ (upd H T (.tup [.int (c + (i : Nat)), x])) fun σ2 H2 => tb { D with nx := Pv (i + 1), ct := Pv (i + 1), bk := D.nx } σ2 H2) (hd : ∀ σ H, Pv xs.length σ H → D.nx σ H) :
    ∃ W : Nat → Nat → L2.St → Hp → Prop, (∃ m, W 0 m σ H) ∧ ∀ i m σ H, W i m σ H →
      ((IteC K k a c).stop i H ∧ D.nx σ H) ∨ ((IteC K k a c).go i H ∧ ∃ N : L2.St → Hp → Prop, (∀ σ' H', N σ' H' → ∃ m', m' < m ∧ W (i + 1) m' σ' H') ∧ ∀ v H', (IteC K k a c).yld i H v H' → g v σ H' fun σ2 H2 => tb { D with nx := N, ct := N, bk := D.nx } σ2 H2) := by
  refine ⟨fun i m σ H => m = xs.length - i ∧ i ≤ xs.length ∧ Pv i σ H, ⟨_, rfl, Nat.zero_le _, h0⟩, ?_⟩
  rintro i m σ H ⟨rfl, hi, p⟩
  have q := hl i σ H p
  by_cases lt : i < xs.length
  · have hx : xs[i]? = some xs[i] := List.getElem?_eq_getElem lt
    refine .inr ⟨⟨xs, _, q, hx⟩, Pv (i + 1), fun σ' H' p' => ⟨xs.length - (i + 1), by omega, rfl, lt, p'⟩, fun v H' y => ?_⟩
    obtain ⟨T, x', rfl, hT, rfl, f⟩ := y
    exact hs i x' T σ H (f xs q) p hT
  · obtain rfl : i = xs.length := by omega
    exact .inl ⟨⟨xs, q, rfl⟩, hd σ H p⟩
end VG

set_option maxRecDepth 100000
set_option linter.unusedVariables false
namespace Lw
open PySem PySem.Spec PyProof.Rows L2 VG
theorem fn_passes {P : Program} {w : World} {K : PySem.W.Frag} {mg : Str → Option Value} {base : Heap} {N : List Str} {q : Str} {sc : Scope} {f : Addr} {cd : Value} {A : Around} {outer : List Env} {s : Shared} {H : Hp} {E : XK} : Passes (L2.CX P w) (cxOf (L2.CX P w) P w K mg base N q sc f cd A outer s H E) E :=
  passes_call (W := fun cls d _ H => E cls d H) (takes_of rfl rfl rfl rfl) fun _ _ _ _ h => h
theorem fit_one {n : Nat} {d : PyData} (h : fit n d = true) : ∀ d' ∈ [d], fit n d' = true := fun d' hd => by
  rw [List.mem_singleton.mp hd]
  exact h
theorem fit_str {n : Nat} (z : Str) : fit n (.str z) = true := by cases n <;> rfl
theorem fit_int {n : Nat} (z : Int) : fit n (.int z) = true := by cases n <;> rfl
theorem fit_two {n : Nat} (z : Str) (k : Int) : ∀ d' ∈ [PyData.str z, .int k], fit n d' = true := fun d' hd => by
  rcases List.mem_cons.mp hd with rfl | hd
  · exact fit_str z
  · rw [List.mem_singleton.mp hd]
    exact fit_int k
section
variable {P : Program} {w : World} {K : PySem.W.Frag} {mg : Str → Option Value} {base : Heap} {CU CD CM CE : Addr}
def spWith (K : PySem.W.Frag) (CU CD CM CE : Addr) : Sp := fun vs H Q E => ∃ (N : Addr) (zs : List Str) (z : Str), vs = [.ref N, .str z] ∧ SqL K H N (tVs zs) ∧ Gz zs ∧ NbQ K CU CD CM CE (placeE zs z) H Q E
theorem scWith : FnScope ["names", "name"] ["names", "name"] (defScope s__names_with) := ⟨rfl, rfl, rfl, by decide +kernel, rfl, by decide +kernel, by decide +kernel⟩
theorem ok_with {f : Addr} {fd : FuncData} {u : Value} (F : Fun K "_names_with" "_names_with" s__names_with f fd) (ln : mg "len" = none) (mM : mg "MOST_NAMES" = some u) (rM : RelV (.int 5) u)
    (XD : ErrC P w K mg base "DuplicateName" ["name"] CD 4 2) (XM : ErrC P w K mg base "TooMany" ["subject", "most"] CM 4 2) : FnOk P w K mg base (L2.CX P w) 6 f fd ["names", "name"] (spWith K CU CD CM CE) := by
  refine F.okX scWith (fun vs H Q E h => ?_) (fun cdv A outer s H vs Q E hr h => ?_)
  · obtain ⟨N, zs, z, rfl, _⟩ := h
    rfl
  · obtain ⟨N, zs, z, rfl, hN, g, q1, q2⟩ := h
    refine ⟨_, pss_cons (ps_if (pt_cmpR op_in_seq (pv 1) (pv 0) (by with_unfolding_all rfl)) (pss_one (ps_err XD rfl (takes_of rfl rfl rfl rfl) hr (by rfl) (pa_cons (pv 1) pa_nil))) pss_nil)
      (pss_cons (ps_if (pt_cmpR op_eq (pe_callB call_len_seq (by rfl) ln PySem.boot_len (pa_cons (pv 0) pa_nil)) (pe_glob (v := .int 5) (by rfl) mM rM) (nomark _)) (pss_one (ps_err XM rfl (takes_of rfl rfl rfl rfl) hr (by rfl) (pa_cons pe_str (pa_cons (pe_glob (v := .int 5) (by rfl) mM rM) pa_nil)))) pss_nil)
      (pss_one (ps_ret (pe_lst (StX.pa_star (pv 0) (pa_cons (pv 1) pa_nil)))))), ?_⟩
    refine ⟨_, rfl, _, rfl, N, _, rfl, .inl hN, rfl, flat_strs2 _, _, rfl, ?_⟩
    simp only [Bool.false_eq_true, if_false]
    have l0 : (tVs zs).length = zs.length := List.length_map _
    unfold placeE at q1 q2
    by_cases m : z ∈ zs
    · rw [if_pos m] at q2
      rw [inV_mem, decide_eq_true m]
      exact iteT ⟨_, rfl, mk_err (ds := [.str z]) rfl rfl (by decide) (.cons (.str _) .nil) (fit_one (fit_str z)) fun dd H' s2 er => q2 _ rfl dd H' s2 er⟩
    rw [if_neg m] at q1 q2
    rw [inV_mem, decide_eq_false m]
    refine iteF ⟨_, rfl, N, _, rfl, .inl hN, rfl, _, rfl, ?_⟩
    by_cases l5 : zs.length = 5
    · rw [if_pos l5] at q2
      rw [decide_eq_true (show V.int ((tVs zs).length : Nat) = V.int 5 from by rw [l0, l5]; rfl)]
      exact iteT (mk_err (ds := [.str "names", .int 5]) rfl rfl (by decide) (.cons (.str _) (.cons (.int _) .nil)) (fit_two _ _) fun dd H' s2 er => q2 _ rfl dd H' s2 er)
    rw [if_neg l5] at q1
    rw [decide_eq_false (show ¬ V.int ((tVs zs).length : Nat) = V.int 5 from fun e => by injection e with e; omega)]
    refine iteF ⟨_, rfl, N, _, rfl, .inr hN, _, rfl, ?_, fun L hL => ?_⟩
    · rw [List.length_append, l0]
      have := g.few
      exact Nat.le_trans (show zs.length + 1 ≤ 6 by omega) (by decide)
    · refine q1 _ rfl L _ (same_upd hL) ?_
      have e : tVs zs ++ [V.str z] = tVs (zs ++ [z]) := by
        show _ = List.map V.str (zs ++ [z])
        rw [List.map_append]
        rfl
      rw [e]
      exact SqL.of upd_same
end
end Lw

set_option maxRecDepth 100000
set_option linter.unusedVariables false
namespace Lw
open PySem PySem.Spec PyProof.Rows L2 VG
theorem strs_shaped {ws : List Str} (h : ∀ w ∈ ws, wdB w) : SeqAt.shaped (.list (ws.map PyData.str)) = true := by
  have h1 : PyData.canLayAll0 (ws.map PyData.str) = true := by
    induction ws with
    | nil => rfl
    | cons a t ih =>
      show (PyData.canLay0 (.str a) && PyData.canLayAll0 (t.map PyData.str)) = true
      rw [ih fun w hw => h w (List.mem_cons_of_mem _ hw), show PyData.canLay0 (.str a) = true by simp only [PyData.canLay0]; exact (h a List.mem_cons_self).2]
      rfl
  have h2 : PyData.depthAll (ws.map PyData.str) ≤ 0 := by
    clear h h1
    induction ws with
    | nil => simp [PyData.depthAll]
    | cons a t ih => simp [PyData.depthAll, PyData.depth] at ih ⊢; exact ih
  show (PyData.canLay0 (.list (ws.map PyData.str)) && decide (PyData.depth (.list (ws.map PyData.str)) ≤ 64)) = true
  have e1 : PyData.canLay0 (.list (ws.map PyData.str)) = true := by simp only [PyData.canLay0]; exact h1
  have e2 : PyData.depth (.list (ws.map PyData.str)) ≤ 64 := by
    simp only [PyData.depth]
    omega
  rw [e1, decide_eq_true e2]
  rfl
theorem dp_strs {K : PySem.W.Frag} {H : Hp} : ∀ ws : List Str, DpAll K H (tVs ws) (ws.map PyData.str)
  | [] => .nil
  | a :: t => .cons (.str a) (dp_strs t)
theorem strs_eqv2 : ∀ a b : List Str, PyData.eqv (.list (a.map PyData.str)) (.list (b.map PyData.str)) = decide (a = b) := by
  have go : ∀ a b : List Str, PyData.eqvAll (a.map PyData.str) (b.map PyData.str) = decide (a = b) := fun a => by
    induction a with
    | nil =>
      intro b
      cases b with
      | nil => rfl
      | cons y b => rfl
    | cons x a ih =>
      intro b
      cases b with
      | nil => rfl
      | cons y b =>
        show ((x == y) && PyData.eqvAll (a.map PyData.str) (b.map PyData.str)) = decide (x :: a = y :: b)
        rw [ih]
        by_cases e : x = y
        · subst e
          rw [beq_self_eq_true, Bool.true_and]
          by_cases f : a = b
          · rw [f, decide_eq_true rfl, decide_eq_true rfl]
          · rw [decide_eq_false f, decide_eq_false fun h => f (List.cons.inj h).2]
        · have : (x == y) = false := by simpa using e
          rw [this, Bool.false_and, decide_eq_false fun h => e (List.cons.inj h).1]
  exact go
theorem gz_wd {zs : List Str} (g : Gz zs) : ∀ z ∈ zs, wdB z := fun z hz => nm_wd (g.nm z hz)
theorem ints_sq (ps : List Int) : (ps.map V.int).length = ps.length := List.length_map _
theorem dp_intsT {K : PySem.W.Frag} {H : Hp} : ∀ ps : List Int, DpAll K H (ps.map V.int) (ps.map PyData.int)
  | [] => .nil
  | a :: t => .cons (.int a) (dp_intsT t)
theorem fit_path {ps : List Int} (h : ps.length ≤ 60) : fit 2 (.tuple (ps.map PyData.int)) = true := by
  have a : (ps.map PyData.int).all (fit 1) = true := List.all_eq_true.mpr fun d hd => by
    obtain ⟨k, _, rfl⟩ := List.mem_map.mp hd
    rfl
  show (decide ((ps.map PyData.int).length ≤ 1000) && (ps.map PyData.int).all (fit 1)) = true
  rw [a, List.length_map, decide_eq_true (by omega)]
  rfl
section
variable {P : Program} {w : World} {K : PySem.W.Frag} {mg : Str → Option Value} {base : Heap} {CU CD CM CE : Addr}
def spNB (K : PySem.W.Frag) (CU CD CM CE : Addr) (n : Nat) : Sp := fun vs H Q E => ∃ (N A : Addr) (x : V) (zs : List Str) (ds : List PyData) (l : Nat) (ps : List Int) (c : Int), vs = [.ref N, x, .ref A, .int c] ∧ SqL K H N (tVs zs) ∧ Gz zs ∧ Dp K H x (.tuple ds) ∧ DsL l n ds ∧ ds.length ≤ 30 ∧
  SqT K H A (ps.map V.int) ∧ ps.length + n ≤ 50 ∧ 0 ≤ c ∧ c ≤ 1000 ∧ NbQ K CU CD CM CE (nbE n zs ps c ds) H Q E
abbrev stepN (n : Nat) : List Str → List Int → PyData → NbR := stepE (nbE n) fun d => cwD "place" (n + 1) [d]
/-- one step -/
def spNS (K : PySem.W.Frag) (CU CD CM CE : Addr) (n : Nat) : Sp := fun vs H Q E => ∃ (N A : Addr) (x : V) (zs : List Str) (d : PyData) (l : Nat) (ps : List Int), vs = [.ref N, x, .ref A] ∧ SqL K H N (tVs zs) ∧ Gz zs ∧ Dp K H x d ∧ OkS l n d ∧
  SqT K H A (ps.map V.int) ∧ ps.length + n ≤ 50 ∧ NbQ K CU CD CM CE (stepN n zs ps d) H Q E
/-- a branch -/
def spNI (K : PySem.W.Frag) (CU CD CM CE : Addr) (n : Nat) : Sp := fun vs H Q E => ∃ (N A : Addr) (x : V) (zs : List Str) (d : PyData) (l : Nat) (ps : List Int), vs = [.ref N, x, .ref A] ∧ SqL K H N (tVs zs) ∧ Gz zs ∧ Dp K H x d ∧ OkS l n d ∧ wordD d = "if" ∧
  SqT K H A (ps.map V.int) ∧ ps.length + n ≤ 50 ∧ NbQ K CU CD CM CE (ifE (nbE n) (cwD "place" (n + 1) [d]) zs ps d) H Q E
def spNP (K : PySem.W.Frag) (CU CD CM CE : Addr) (n : Nat) : Sp := fun vs H Q E => ∃ (N A : Addr) (x : V) (zs : List Str) (d : PyData) (l : Nat) (ps : List Int), vs = [.ref N, x, .ref A] ∧ SqL K H N (tVs zs) ∧ Gz zs ∧ Dp K H x d ∧ OkS l n d ∧ wordD d = "repeat" ∧
  SqT K H A (ps.map V.int) ∧ ps.length + n ≤ 50 ∧ NbQ K CU CD CM CE (repE (fun ys => nbE n ys ps 0 (innerD d)) (timesD d).toNat zs) H Q E
abbrev NbI : List Str := ["names", "step", "path", "one", "other", "ends"]
theorem scNbI : FnScope NbI ["names", "step", "path"] (defScope s__names_behind_if) := ⟨rfl, rfl, rfl, by decide +kernel, rfl, by decide +kernel, by decide +kernel⟩
abbrev NbR2 : List Str := ["names", "step", "path", "there", "_"]
theorem scNbR : FnScope NbR2 ["names", "step", "path"] (defScope s__names_behind_repeat) := ⟨rfl, rfl, rfl, by decide +kernel, rfl, by decide +kernel, by decide +kernel⟩
theorem names_cmp {G : Hp} {A B : Addr} {zs ys : List Str} {Q : Bool → Hp → Prop} (h1 : SqL K G A (tVs zs)) (h2 : SqL K G B (tVs ys)) (gz : Gz zs) (gy : Gz ys) (q : Q (!decide (zs = ys)) G) : rNeD K (.ref A) (.ref B) G fun x H1 => ∃ c, x = .bl c ∧ Q c H1 := by
  refine ⟨.list (zs.map PyData.str), .list (ys.map PyData.str), .lst h1 (dp_strs _), .lst h2 (dp_strs _), strs_shaped (gz_wd gz), strs_shaped (gz_wd gy), _, rfl, ?_⟩
  rw [strs_eqv2]
  exact q
theorem dp_seven {G : Hp} {x : V} {u : Str} {a1 a2 a3 a4 d5 d6 : PyData} (h : Dp K G x (.tuple [.str u, a1, a2, a3, a4, d5, d6])) : ∃ T v1 v2 v3 v4 v5 v6, x = .ref T ∧ SqT K G T [.str u, v1, v2, v3, v4, v5, v6] ∧ Dp K G v5 d5 ∧ Dp K G v6 d6 := by
  cases h with
  | tup hT hd => cases hd with
    | cons b0 t => cases t with
      | cons b1 t => cases t with
        | cons b2 t => cases t with
          | cons b3 t => cases t with
            | cons b4 t => cases t with
              | cons c1 t => cases t with
                | cons c2 t =>
                  cases t
                  cases b0
                  exact ⟨_, _, _, _, _, _, _, rfl, hT, c1, c2⟩
variable {fB fC fT fI : Addr} {fdB fdC fdT fdI : FuncData}
abbrev NB4 : List Str := ["names", "steps", "path", "first"]
theorem ok_nIf {k n : Nat} {f : Addr} {fd : FuncData} {d3 : List Value} (hk : n + 3 ≤ k) (hk4 : 5 ≤ k) (F : Fun K "_names_behind_if" "_names_behind_if" s__names_behind_if f fd) (ln : mg "len" = none)
    (GB : FnOk P w K mg base (L2.CX P w) k fB fdB NB4 (spNB K CU CD CM CE n)) (mB : mg "names_behind" = some (.ref fB)) (kB : PySem.W.keepIn K (.ref fB) = true) (b4 : Binds K fdB NB4 []) (b3 : Binds K fdB NB4 d3) (v3 : Vals [.int 0] d3)
    (GC : FnOk P w K mg base CX0 (n + 3) fC fdC ["steps", "word"] (spCountW K (n + 2))) (mC : mg "count_word" = some (.ref fC)) (kC : PySem.W.keepIn K (.ref fC) = true) (bC : Binds K fdC ["steps", "word"] [])
    (XE : ErrC P w K mg base "UnlikeEnds" ["path"] CE 4 2) :
    FnOk P w K mg base (L2.CX P w) (k + 1) f fd ["names", "step", "path"] (spNI K CU CD CM CE n) := by
  refine F.okX scNbI (fun vs H Q E h => ?_) (fun cdv A outer s H vs Q E hr h => ?_)
  · obtain ⟨N, A, x, zs, d, l, ps, rfl, _⟩ := h
    rfl
  · obtain ⟨N, A, x, zs, d, l, ps, rfl, hN, g, hx, ho, hw, hA, lp, q1, q2⟩ := h
    have nd := scNbI.nd
    have hun := hr.units
    have hrc : Room (n + 3) _ := hr.mono hk
    have hr5 : Room 5 _ := hr.mono (by omega)
    refine ⟨_, pss_cons (ps_asg (pe_slice sl_tupA (pv 1) (po_some (pe_un un_neg pe_int)) po_none) (pg_tup (by rfl) (pgs_cons (pg_name (i := 3) nd rfl (Or.inl rfl)) (pgs_cons (pg_name (i := 4) nd rfl (Or.inl rfl)) pgs_nil))))
      (pss_cons (ps_set (i := 5) nd rfl (Or.inl rfl) (pe_call (E := E) GB hr (by rfl) mB kB b3 v3 fn_passes (pa_cons (pv 0) (pa_cons (pv 3) (pa_cons (pv 2) pa_nil)))))
      (pss_cons (ps_if (PW.pt (pw_or (pt_cmpR (op_neD hun) (pe_call (E := E) GB hr (by rfl) mB kB b4 .nil fn_passes (pa_cons (pv 0) (pa_cons (pv 4) (pa_cons (pv 2) (pa_cons (pe_callB call_len_seq (by rfl) ln PySem.boot_len (pa_cons (pv 3) pa_nil)) pa_nil))))) (pv 5) (nomark _))
          (pw_or1 (pt_truth (pe_call GC hrc (by rfl) mC kC bC .nil pass0 (pa_cons (pe_tup (pa_cons (pv 1) pa_nil)) (pa_cons pe_str pa_nil))) (fun _ => rfl))))) (pss_one (ps_err XE rfl (takes_of rfl rfl rfl rfl) hr5 (by rfl) (pa_cons (pv 2) pa_nil))) pss_nil)
      (pss_one (ps_ret (pv 5))))), ?_⟩
    have hs := okS_std ho
    obtain ⟨a1, a2, a3, a4, d1, d2, rfl, hi, eo, et, l1, l2⟩ := if_form hs hw
    have inn := okS_inner ho
    rw [hi] at inn
    obtain ⟨i1, i2⟩ := dsl_left inn
    unfold ifE at q1 q2
    rw [eo] at q1 q2 i1
    rw [et] at q1 q2 i2
    have hx0 := hx
    obtain ⟨T, v1, v2, v3', v4, v5, v6, rfl, hT, c1, c2⟩ := dp_seven hx
    obtain ⟨t5, x5, rfl, h5, hd5⟩ := dp_tup c1
    refine ⟨_, rfl, 2, rfl, -2, rfl, T, _, rfl, hT, fun hw => absurd hw.1 (by show ¬ HT.sIx 7 0 (some (-2)) = 0; decide), fun _ p1 hp1 => ?_⟩
    have m1 := same_upd (o := .tup (cutV [V.str "if", v1, v2, v3', v4, .ref t5, v6] (some (-2)) none)) hp1
    refine ⟨p1, [.ref t5, v6], rfl, SqT.of upd_same, rfl, _, _, rfl, _, _, rfl, rfl, ?_⟩
    refine ⟨_, rfl, _, rfl, _, rfl, N, A, .ref t5, zs, d1, l, ps, 0, rfl, m1.seq hN, g, Dp.same m1 _ _ c1, i1, by omega, Same.tup m1 hA, by omega, by decide, by decide, fun one h1 N1 H1 e1 hN1 => ?_, fun e he dd H' s2 er => ?_⟩
    rotate_left
    · rw [he] at q2
      exact q2 e rfl dd H' (m1.trans s2) er
    rw [h1] at q1 q2
    have g1 := nb_gz i1 g h1
    have e01 := m1.trans e1
    refine ⟨_, rfl, _, rfl, _, rfl, _, rfl, t5, x5, rfl, .inr (Same.tup e01 h5), N, A, v6, zs, d2, l, ps, _, rfl, e01.seq hN, g, Dp.same e01 _ _ c2, i2, by omega, Same.tup e01 hA, by omega, by omega, by rw [DpAll.len hd5]; omega, fun other h2 N2 H2 e2 hN2 => ?_, fun e he dd H' s2 er => ?_⟩
    rotate_left
    · rw [DpAll.len hd5] at he
      rw [he] at q2
      exact q2 e rfl dd H' (e01.trans s2) er
    rw [DpAll.len hd5] at h2
    rw [h2] at q1 q2
    dsimp only at q1 q2
    have g2 := nb_gz i2 g h2
    have e02 := e01.trans e2
    have raise : ∀ {G : Hp}, Same H G → (other ≠ one ∨ cwD "place" (n + 1) [.tuple [.str "if", a1, a2, a3, a4, .tuple d1, .tuple d2]] ≠ 0) → _ := fun {G} s z => by
      rw [if_pos z] at q2
      exact fun dd H' (s2 : Same G H') er => q2 _ rfl dd H' (s.trans s2) er
    refine ⟨_, rfl, names_cmp hN2 (e2.seq hN1) g2 g1 ?_⟩
    by_cases eq : other = one
    · rw [decide_eq_true eq]
      refine iteF ⟨_, rfl, small_line (by show 1 ≤ 1000; decide), fun p2 hp2 => ?_⟩
      have m2 := same_upd (o := .tup [.ref T]) hp2
      have e03 := e02.trans m2
      refine ⟨.ref p2, [_], "place", rfl, .tup (SqT.of upd_same) (.cons (Dp.same e03 _ _ hx0) .nil), fun d hd => by rw [List.mem_singleton.mp hd]; exact hs, by show 1 ≤ 30; decide, fun H3 e3 => ?_⟩
      by_cases cz : cwD "place" (n + 1) [.tuple [.str "if", a1, a2, a3, a4, .tuple d1, .tuple d2]] = 0
      · rw [cz]
        rw [if_neg (fun z => z.elim (fun y => y eq) (fun y => y cz))] at q1
        exact ⟨false, rfl, iteF ⟨_, rfl, q1 _ rfl N1 H3 (e03.trans e3) (((e2.trans m2).trans e3).seq hN1)⟩⟩
      · refine ⟨true, ?_, iteT ⟨_, rfl, mk_err (ds := [.tuple (ps.map PyData.int)]) rfl rfl (by decide) (.cons (.tup (Same.tup (e03.trans e3) hA) (dp_intsT ps)) .nil) (fit_one (fit_path (by omega))) fun dd H' s2 er => raise (e03.trans e3) (.inr cz) dd H' s2 er⟩⟩
        show (_ : Bool) = _
        simpa using cz
    · rw [decide_eq_false eq]
      exact iteT ⟨_, rfl, mk_err (ds := [.tuple (ps.map PyData.int)]) rfl rfl (by decide) (.cons (.tup (Same.tup e02 hA) (dp_intsT ps)) .nil) (fit_one (fit_path (by omega))) fun dd H' s2 er => raise e02 (.inl eq) dd H' s2 er⟩
theorem ok_nRep {k n : Nat} {f : Addr} {fd : FuncData} {d3 : List Value} (hk : 2 ≤ k) (F : Fun K "_names_behind_repeat" "_names_behind_repeat" s__names_behind_repeat f fd) (rg : mg "range" = none)
    (GB : FnOk P w K mg base (L2.CX P w) k fB fdB NB4 (spNB K CU CD CM CE n)) (mB : mg "names_behind" = some (.ref fB)) (kB : PySem.W.keepIn K (.ref fB) = true) (b3 : Binds K fdB NB4 d3) (v3 : Vals [.int 0] d3)
    (GT : FnOk P w K mg base CX0 1 fT fdT ["step"] (spTimesOf K)) (mT : mg "times_of" = some (.ref fT)) (kT : PySem.W.keepIn K (.ref fT) = true) (bT : Binds K fdT ["step"] [])
    (GI : FnOk P w K mg base CX0 1 fI fdI ["step"] (spInner K)) (mI : mg "inner_steps" = some (.ref fI)) (kI : PySem.W.keepIn K (.ref fI) = true) (bI : Binds K fdI ["step"] []) :
    FnOk P w K mg base (L2.CX P w) (k + 1) f fd ["names", "step", "path"] (spNP K CU CD CM CE n) := by
  refine F.okX scNbR (fun vs H Q E h => ?_) (fun cdv A outer s H vs Q E hr h => ?_)
  · obtain ⟨N, A, x, zs, d, l, ps, rfl, _⟩ := h
    rfl
  · obtain ⟨N, A, x, zs, d, l, ps, rfl, hN, g, hx, ho, hw, hA, lp, q1, q2⟩ := h
    have nd := scNbR.nd
    have hr1 : Room 1 _ := hr.mono (by omega)
    refine ⟨_, pss_cons (ps_set (i := 3) nd rfl (Or.inl rfl) (pv 0))
      (pss_cons (ps_for (passes_of rfl) rfl (pi_range1 (by rfl) rg (pa_cons (pe_call GT hr1 (by rfl) mT kT bT .nil pass0 (pa_cons (pv 1) pa_nil)) pa_nil)) (pg_name (i := 4) nd rfl (Or.inl rfl))
        (pss_one (ps_set (i := 3) nd rfl (Or.inl rfl) (pe_call (E := E) GB hr (by rfl) mB kB b3 v3 fn_passes (pa_cons (pv 3) (pa_cons (pe_call GI hr1 (by rfl) mI kI bI .nil pass0 (pa_cons (pv 1) pa_nil)) (pa_cons (pv 2) pa_nil)))))))
      (pss_one (ps_ret (pv 3)))), ?_⟩
    have hs := okS_std ho
    have inn := okS_inner ho
    obtain ⟨si, li⟩ := inner_std hs
    obtain ⟨t1, t3⟩ := times_small hs
    refine ⟨_, rfl, _, rfl, x, n, d, rfl, hx, hs, timesD d, rfl, by omega, by omega, for_range (lo := 0) (n := (timesD d).toNat) (fun i σ G => ∃ (N1 : Addr) (zs1 : List Str) (o4 : Option V), σ = [some (.ref N), some x, some (.ref A), some (.ref N1), o4] ∧ Same H G ∧ SqL K G N1 (tVs zs1) ∧ Gz zs1 ∧ repE (fun ys => nbE n ys ps 0 (innerD d)) ((timesD d).toNat - i) zs1 = repE (fun ys => nbE n ys ps 0 (innerD d)) (timesD d).toNat zs) ⟨N, zs, none, rfl, Same.refl H, hN, g, rfl⟩ ?_ ?_⟩
    · rintro i σ G hi ⟨N1, zs1, o4, rfl, sm, hN1, gz1, er⟩
      have ei : (timesD d).toNat - i = ((timesD d).toNat - (i + 1)) + 1 := by omega
      rw [ei] at er
      refine ⟨_, rfl, _, rfl, x, n, d, rfl, Dp.same sm _ _ hx, hs, fun y G1 e1 hy => ?_⟩
      refine ⟨_, rfl, N1, A, y, zs1, innerD d, l, ps, 0, rfl, e1.seq hN1, gz1, hy, inn, by omega, Same.tup (sm.trans e1) hA, by omega, by decide, by decide, fun ys hys N2 G2 e2 hN2 => ?_, fun e he dd H' s2 ed => ?_⟩
      · refine ⟨N2, ys, _, rfl, sm.trans (e1.trans e2), hN2, nb_gz inn gz1 hys, ?_⟩
        rw [← er]
        exact (repE_ok hys).symm
      · refine q2 e ?_ dd H' ((sm.trans e1).trans s2) ed
        rw [← er]
        exact repE_err he
    · rintro σ G ⟨N1, zs1, o4, rfl, sm, hN1, gz1, er⟩
      rw [Nat.sub_self] at er
      exact ⟨_, rfl, q1 zs1 er.symm N1 G sm hN1⟩
end
end Lw

set_option maxRecDepth 100000
set_option linter.unusedVariables false
namespace Lw
open PySem PySem.Spec PyProof.Rows L2 VG

theorem find_none {zs ks : List Str} (h : ks.find? (fun z => decide (z ∉ zs)) = none) : ∀ z ∈ ks, z ∈ zs := fun z hz => by
  have := List.find?_eq_none.mp h z hz
  simpa using this
theorem find_take {zs ks : List Str} {i : Nat} {z : Str} (hz : ks[i]? = some z) (h : ∀ y ∈ ks.take i, y ∈ zs) (n : z ∉ zs) : ks.find? (fun z => decide (z ∉ zs)) = some z := by
  obtain ⟨lt, e⟩ := List.getElem?_eq_some_iff.mp hz
  have s : ks = ks.take i ++ z :: ks.drop (i + 1) := by
    rw [← e, ← List.drop_eq_getElem_cons lt, List.take_append_drop]
  rw [s, List.find?_append, List.find?_eq_none.mpr fun y hy => by simpa using h y hy, List.find?_cons_of_pos (by simpa using n)]
  rfl
section
variable {P : Program} {w : World} {K : PySem.W.Frag} {mg : Str → Option Value} {base : Heap} {CU CD CM CE : Addr}
abbrev NbS : List Str := ["names", "step", "path", "name", "word"]
theorem scNbS : FnScope NbS ["names", "step", "path"] (defScope s__names_behind_step) := ⟨rfl, rfl, rfl, by decide +kernel, rfl, by decide +kernel, by decide +kernel⟩
abbrev NbL : List Str := ["names", "steps", "path", "first", "there", "at", "step"]
theorem scNbL : FnScope NbL ["names", "steps", "path", "first"] (defScope s_names_behind) := ⟨rfl, rfl, rfl, by decide +kernel, rfl, by decide +kernel, by decide +kernel⟩
variable {fK fF fR fW fS : Addr} {fdK fdF fdR fdW fdS : FuncData}
theorem same_forget {l : Nat} {u : Str} {items : List PyData} (h : LeafL l (.tuple (.str u :: items)) ∨ BrL l (.tuple (.str u :: items))) (e : u = "same" ∨ u = "forget") {H : Hp} {ys : List V} (hd : DpAll K H ys items) : ∃ (ys2 : List V) (z : Str), V.str u :: ys = ys2 ++ [.str z] ∧ strD (items.getLastD .none) = z := by
  obtain ⟨u', ks, items', e1, ew, _, hm, hk⟩ := form_u h
  injection e1 with e1
  injection e1 with e1 e2
  injection e1 with e1
  subst e1 e2
  have str_of : ∀ {d : PyData}, KindL l "name" d → ∃ z, d = .str z := fun h => by
    cases h with
    | old h _ =>
      cases h with
      | name h => exact ⟨_, rfl⟩
  rcases hm with hm | ⟨hu, _⟩
  rotate_left
  · exact absurd hu fun hu => by
      rcases e with rfl | rfl <;> rcases hu with hu | hu <;> exact absurd hu (by decide +kernel)
  rcases e with rfl | rfl
  · have ek : ks = (["name", "name"] : List Str) := (show ∀ s ∈ SHL, s.1 = "same" → s.2 = (["name", "name"] : List Str) by decide +kernel) _ hm rfl
    subst ek
    cases hk with
    | cons a t =>
    cases t with
    | cons b t =>
    cases t
    obtain ⟨y, rfl⟩ := str_of a
    obtain ⟨z, rfl⟩ := str_of b
    obtain ⟨ys', rfl, h'⟩ := dp_word hd
    obtain ⟨ys'', rfl, h''⟩ := dp_word h'
    cases h''
    exact ⟨[.str "same", .str y], z, rfl, rfl⟩
  · have ek : ks = (["name"] : List Str) := (show ∀ s ∈ SHL, s.1 = "forget" → s.2 = (["name"] : List Str) by decide +kernel) _ hm rfl
    subst ek
    cases hk with
    | cons a t =>
    cases t
    obtain ⟨z, rfl⟩ := str_of a
    obtain ⟨ys', rfl, h'⟩ := dp_word hd
    cases h'
    exact ⟨[.str "forget"], z, rfl, rfl⟩
theorem ok_nStep {k n : Nat} {f : Addr} {fd : FuncData} (hk : 5 ≤ k) (F : Fun K "_names_behind_step" "_names_behind_step" s__names_behind_step f fd)
    (GK : FnOk P w K mg base CX0 1 fK fdK ["step"] (spKnown K)) (mK : mg "known_names" = some (.ref fK)) (kK : PySem.W.keepIn K (.ref fK) = true) (bK : Binds K fdK ["step"] [])
    (GF : FnOk P w K mg base (L2.CX P w) (k + 1) fF fdF ["names", "step", "path"] (spNI K CU CD CM CE n)) (mF : mg "_names_behind_if" = some (.ref fF)) (kF : PySem.W.keepIn K (.ref fF) = true) (bF : Binds K fdF ["names", "step", "path"] [])
    (GR : FnOk P w K mg base (L2.CX P w) (k + 1) fR fdR ["names", "step", "path"] (spNP K CU CD CM CE n)) (mR : mg "_names_behind_repeat" = some (.ref fR)) (kR : PySem.W.keepIn K (.ref fR) = true) (bR : Binds K fdR ["names", "step", "path"] [])
    (GW : FnOk P w K mg base (L2.CX P w) 6 fW fdW ["names", "name"] (spWith K CU CD CM CE)) (mW : mg "_names_with" = some (.ref fW)) (kW : PySem.W.keepIn K (.ref fW) = true) (bW : Binds K fdW ["names", "name"] [])
    (XU : ErrL P w K mg base "UnknownName" ["name"] CU 4 2) :
    FnOk P w K mg base (L2.CX P w) (k + 2) f fd ["names", "step", "path"] (spNS K CU CD CM CE n) := by
  refine F.okX scNbS (fun vs H Q E h => ?_) (fun cdv A outer s H vs Q E hr h => ?_)
  · obtain ⟨N, A, x, zs, d, l, ps, rfl, _⟩ := h
    rfl
  · obtain ⟨N, A, x, zs, d, l, ps, rfl, hN, g, hx, ho, hA, lp, q1, q2⟩ := h
    have nd := scNbS.nd
    have hr1 : Room 1 _ := hr.mono (by omega)
    have hr5 : Room 5 _ := hr.mono (by omega)
    have hr6 : Room 6 _ := hr.mono (by omega)
    refine ⟨_, C8.pss_cut (ps_for (passes_of rfl) rfl (pi_list (pe_call GK hr1 (by rfl) mK kK bK .nil pass0 (pa_cons (pv 1) pa_nil))) (pg_name (i := 3) nd rfl (Or.inl rfl))
        (pss_one (ps_if (pt_cmpR (show OpR _ _ (rIn K true) from op_notIn_seq) (pv 3) (pv 0) (by with_unfolding_all rfl)) (pss_one (ps_errG XU rfl (takes_of rfl rfl rfl rfl) hr5 (by rfl) (pa_cons (pv 3) pa_nil))) pss_nil)))
      (pss_cons (ps_set (i := 4) nd rfl (Or.inl rfl) (pe_ix ix_tup (pv 1) pe_int fun _ _ => rfl))
      (pss_cons (ps_if (pt_cmpR op_eq (pv 4) pe_str (nomark _)) (pss_one (ps_ret (pe_call (E := E) GF hr (by rfl) mF kF bF .nil fn_passes (pa_cons (pv 0) (pa_cons (pv 1) (pa_cons (pv 2) pa_nil)))))) pss_nil)
      (pss_cons (ps_if (pt_cmpR op_eq (pv 4) pe_str (nomark _)) (pss_one (ps_ret (pe_call (E := E) GR hr (by rfl) mR kR bR .nil fn_passes (pa_cons (pv 0) (pa_cons (pv 1) (pa_cons (pv 2) pa_nil)))))) pss_nil)
      (pss_cons (ps_if (pt_cmpR op_eq (pv 4) pe_str (nomark _)) (pss_one (ps_ret (pe_call (E := E) GW hr6 (by rfl) mW kW bW .nil fn_passes (pa_cons (pv 0) (pa_cons (pe_ix ix_tup (pv 1) pe_int fun _ _ => rfl) pa_nil))))) pss_nil)
      (pss_cons (ps_if (pt_cmpR op_in_seq (pv 4) (pe_tup (pa_cons pe_str (pa_cons pe_str pa_nil))) rfl) (pss_one (ps_ret (pe_lc (own := [("name", 3)]) (g := gName 3) (tt := _) rfl nd (pi_list (pv 0)) (blkOk_by (own := [("name", 3)]) (N := NbS) (sc := defScope s__names_behind_step) (by decide +kernel)) (fun _ _ _ _ _ => pg_name (i := 3) nd rfl (Or.inl rfl))
          (fun _ _ _ _ _ => pts_one (pt_cmpR op_ne (pv 3) (pe_ix (show IxR _ (rIxT K) from ix_tup) (pv 1) (pe_un un_neg pe_int) fun _ _ => rfl) (nomark _))) (fun _ _ _ _ _ => pv 3)))) pss_nil)
      (pss_one (ps_ret (pv 0)))))))), ?_⟩
    obtain ⟨u, ks, items, rfl, ew, eks, hm, hk⟩ := form_u (okS_form ho)
    have ekn : knownD (.tuple (.str u :: items)) = knownI ks items := by
      show knownI (kindsU u) items = _
      rw [eks]
    obtain ⟨T, ys0, rfl, hT, hys0⟩ := dp_tup hx
    obtain ⟨ys, rfl, hys⟩ := dp_word hys0
    unfold stepN stepE at q1 q2
    rw [ekn] at q1 q2
    have ewd : wordD (.tuple (.str u :: items)) = u := rfl
    rw [ewd] at q1 q2
    refine ⟨fun σ G => ∃ o3 : Option V, σ = [some (.ref N), some (.ref T), some (.ref A), o3, none] ∧ Same H G ∧ ∀ z ∈ knownI ks items, z ∈ zs, ?_, ?_⟩
    · refine ⟨_, rfl, .ref T, u, ks, items, l, rfl, hx, hm, hk, fun L G1 hL e1 h1 => ⟨L, rfl, ⟨_, SqL.of h1⟩, for_list (K := K) (a := L) (xs := tVs (knownI ks items)) (fun i σ G => ∃ o3 : Option V, σ = [some (.ref N), some (.ref T), some (.ref A), o3, none] ∧ Same G1 G ∧ ∀ z ∈ (knownI ks items).take i, z ∈ zs) ⟨none, rfl, Same.refl G1, fun z hz => by cases hz⟩ (fun i σ G _ ⟨_, _, sm, _⟩ => SqL.of (sm _ _ h1)) ?_ ?_⟩⟩
      · rintro i v σ G hv ⟨o3, rfl, sm, hin⟩
        rw [List.getElem?_map] at hv
        obtain ⟨z, hz, rfl⟩ := Option.map_eq_some_iff.mp hv
        refine ⟨_, rfl, _, rfl, N, tVs zs, rfl, .inl ((e1.trans sm).seq hN), rfl, flat_strs _, _, rfl, ?_⟩
        rw [if_pos rfl, inV_mem]
        by_cases mz : z ∈ zs
        · rw [decide_eq_true mz]
          refine iteF ⟨_, rfl, sm, fun y hy => ?_⟩
          rw [List.take_add_one, hz] at hy
          rcases List.mem_append.mp hy with hy | hy
          · exact hin y hy
          · rw [List.mem_singleton.mp hy]
            exact mz
        · rw [decide_eq_false mz]
          rw [find_take hz hin mz] at q2
          exact iteT ⟨_, rfl, mk_err (ds := [.str z]) rfl rfl (by decide) (.cons (.str _) .nil) (fit_one (fit_str z)) fun dd H' s2 er => q2 _ rfl dd H' ((e1.trans sm).trans s2) er⟩
      · rintro σ G ⟨o3, rfl, sm, hin⟩
        rw [List.length_map, List.take_length] at hin
        exact ⟨_, rfl, e1.trans sm, hin⟩
    rintro σ G ⟨o3, rfl, sm, hin⟩
    have fn : (knownI ks items).find? (fun z => decide (z ∉ zs)) = none := List.find?_eq_none.mpr fun z hz => by simpa using hin z hz
    rw [fn] at q1 q2
    dsimp only at q1 q2
    have h0 : atI (V.str u :: ys) 0 = some (V.str u) := atI_nat (j := 0) rfl
    have hT1 := Same.tup sm hT
    have hx1 := Dp.same sm _ _ hx
    have hN1 := sm.seq hN
    refine ⟨_, rfl, _, _, _, _, rfl, rfl, hT1, h0, _, rfl, rfl, _, rfl, ?_⟩
    rw [str_cmp]
    by_cases z1 : u = "if"
    · rw [if_pos z1] at q1 q2
      rw [decide_eq_true z1]
      exact iteT ⟨_, rfl, _, rfl, _, rfl, N, A, .ref T, zs, _, l, ps, rfl, hN1, g, hx1, ho, z1, Same.tup sm hA, lp, NbQ.sub sm ⟨q1, q2⟩⟩
    rw [if_neg z1] at q1 q2
    rw [decide_eq_false z1]
    refine iteF ⟨_, rfl, rfl, _, rfl, ?_⟩
    rw [str_cmp]
    by_cases z2 : u = "repeat"
    · rw [if_pos z2] at q1 q2
      rw [decide_eq_true z2]
      exact iteT ⟨_, rfl, _, rfl, _, rfl, N, A, .ref T, zs, _, l, ps, rfl, hN1, g, hx1, ho, z2, Same.tup sm hA, lp, NbQ.sub sm ⟨q1, q2⟩⟩
    rw [if_neg z2] at q1 q2
    rw [decide_eq_false z2]
    refine iteF ⟨_, rfl, rfl, _, rfl, ?_⟩
    rw [str_cmp]
    by_cases z3 : u = "place"
    · rw [if_pos z3] at q1 q2
      rw [decide_eq_true z3]
      obtain ⟨z, r, ed, hz⟩ := place_form (okS_form ho) z3
      injection ed with ed
      injection ed with ed1 ed2
      injection ed1 with ed1
      subst ed1 ed2
      obtain ⟨ys', rfl, _⟩ := dp_word hys
      exact iteT ⟨_, rfl, _, rfl, _, _, _, _, rfl, rfl, hT1, atI_nat (j := 1) rfl, N, zs, z, rfl, hN1, g, NbQ.sub sm ⟨q1, q2⟩⟩
    rw [if_neg z3] at q1 q2
    rw [decide_eq_false z3]
    refine iteF ⟨_, rfl, small_line (by show 2 ≤ 1000; decide), fun T2 hT2 => ⟨T2, tVs ["same", "forget"], rfl, .inr (SqT.of upd_same), rfl, rfl, _, rfl, ?_⟩⟩
    have m2 := same_upd (o := .tup [.str "same", .str "forget"]) hT2
    have e02 := sm.trans m2
    rw [if_neg (by decide), inV_mem]
    by_cases z4 : u ∈ (["same", "forget"] : List Str)
    · rw [decide_eq_true z4]
      have z5 : u = "same" ∨ u = "forget" := by simpa using z4
      obtain ⟨ys2, z, hl, hd⟩ := same_forget (okS_form ho) z5 hys
      have hT2 := Same.tup m2 hT1
      rw [hl] at hT2
      have hN2 := e02.seq hN
      have few := g.few
      refine iteT ⟨_, rfl, N, rfl, ⟨_, hN2⟩, fun D hD => ?_⟩
      refine lc_list (K := K) (a := N) (xs := tVs zs) (fun i G2 => Same _ G2 ∧ G2 D = some (.lst (tVs ((zs.take i).filter fun y => decide (y ≠ z))))) ⟨same_upd hD, upd_same⟩ (fun i G2 _ c => c.1.seq hN2) (fun i v G2 hv c => ?_) (fun G2 c => ?_)
      · obtain ⟨s2, hls⟩ := c
        rw [List.getElem?_map] at hv
        obtain ⟨y, hy, rfl⟩ := Option.map_eq_some_iff.mp hv
        have li : i < zs.length := (List.getElem?_eq_some_iff.mp hy).1
        have et : (zs.take (i + 1)).filter (fun y => decide (y ≠ z)) = (zs.take i).filter (fun y => decide (y ≠ z)) ++ [y].filter (fun y => decide (y ≠ z)) := by
          rw [List.take_add_one, hy, ← List.filter_append]
          rfl
        refine ⟨rfl, _, rfl, _, rfl, 1, rfl, T, _, _, _, rfl, rfl, Same.tup s2 hT2, atI_last _ _, rfl, _, rfl, ?_⟩
        rw [str_cmp]
        by_cases e : y = z
        · rw [decide_eq_true e]
          exact iteF ⟨s2, by rw [et, List.filter_cons, if_neg (by simpa using e)]; rw [show ([] : List Str).filter (fun y => decide (y ≠ z)) = [] from rfl, List.append_nil]; exact hls⟩
        · rw [decide_eq_false e]
          refine iteT ⟨_, rfl, _, hls, ?_, fun b o hb => ?_, ?_⟩
          · rw [List.length_map]
            exact Nat.lt_of_le_of_lt (Nat.le_trans (List.length_filter_le _ _) (List.length_take_le _ _)) (Nat.lt_of_lt_of_le (show i < 10 by omega) (by decide))
          · rw [upd_ne (ne_of_none hb hD)]
            exact s2 _ _ hb
          · rw [upd_same, et, List.filter_cons, if_pos (by simpa using e)]
            show some (HO.lst (tVs ((zs.take i).filter fun y => decide (y ≠ z)) ++ tVs [y])) = _
            rw [tVs_app]
            rfl
      · obtain ⟨s2, hls⟩ := c
        rw [List.length_map, List.take_length] at hls
        refine q1 _ rfl D G2 (e02.trans s2) ?_
        rw [eff_eq, if_neg z3, if_pos z5, hd]
        exact SqL.of hls
    · rw [decide_eq_false z4]
      have z5 : ¬ (u = "same" ∨ u = "forget") := by simpa using z4
      refine iteF ⟨_, rfl, q1 _ rfl N _ e02 ?_⟩
      rw [eff_eq, if_neg z3, if_neg z5]
      exact e02.seq hN
/-- names_behind, where step n is known -/
theorem ok_nList {k n : Nat} {f : Addr} {fd : FuncData} {d2 : List V} (F : FunD K "names_behind" "names_behind" (defArgs s_names_behind) (defBody s_names_behind) (defScope s_names_behind) d2 [] f fd) (en : mg "enumerate" = none)
    (GS : FnOk P w K mg base (L2.CX P w) k fS fdS ["names", "step", "path"] (spNS K CU CD CM CE n)) (mS : mg "_names_behind_step" = some (.ref fS)) (kS : PySem.W.keepIn K (.ref fS) = true) (bS : Binds K fdS ["names", "step", "path"] []) :
    FnOk P w K mg base (L2.CX P w) (k + 1) f fd NB4 (spNB K CU CD CM CE (n + 1)) := by
  refine FunD.ok (CX := L2.CX P w) F scNbL (fun vs H Q E h => ?_) (fun cdv A outer s H vs Q E hr h => ?_)
  · obtain ⟨N, A, x, zs, ds, l, ps, c, rfl, _⟩ := h
    rfl
  · obtain ⟨N, A, x, zs, ds, l, ps, c, rfl, hN, g, hx, hS, l30, hA, lp, c0, c1, q1, q2⟩ := h
    have nd := scNbL.nd
    refine ⟨_, pss_cons (ps_set (i := 4) nd rfl (Or.inl rfl) (pv 0))
      (pss_cons (ps_for (passes_of rfl) rfl (pi_enumC (by rfl) en (pa_cons (pv 1) pa_nil) (pk_cons (pv 3) pk_nil)) (pg_tup (by rfl) (pgs_cons (pg_name (i := 5) nd rfl (Or.inl rfl)) (pgs_cons (pg_name (i := 6) nd rfl (Or.inl rfl)) pgs_nil)))
        (pss_one (ps_set (i := 4) nd rfl (Or.inl rfl) (pe_call (E := E) GS hr (by rfl) mS kS bS .nil fn_passes (pa_cons (pv 4) (pa_cons (pv 6) (pa_cons (pe_tup (StX.pa_star (pv 2) (pa_cons (pv 5) pa_nil))) pa_nil)))))))
      (pss_one (ps_ret (pv 4)))), ?_⟩
    obtain ⟨a, xs, rfl, hT, hds⟩ := dp_tup hx
    have lx := DpAll.len hds
    refine ⟨_, rfl, _, rfl, _, rfl, a, .t, xs, c, rfl, rfl, by omega, by omega, hT, for_enumC (K := K) (k := .t) (a := a) (c := c) (xs := xs) (fun i σ G => ∃ (N1 : Addr) (zs1 : List Str) (o5 o6 : Option V), σ = [some (.ref N), some (.ref a), some (.ref A), some (.int c), some (.ref N1), o5, o6] ∧ Same H G ∧ SqL K G N1 (tVs zs1) ∧ Gz zs1 ∧ listE (stepN n) zs1 ps (c + (i : Nat)) (ds.drop i) = nbE (n + 1) zs ps c ds)
      ⟨N, zs, _, _, rfl, Same.refl H, hN, g, by rw [List.drop_zero]; show listE (stepN n) zs ps (c + 0) ds = _; rw [Int.add_zero]; rfl⟩ (fun i σ G ⟨_, _, _, _, _, sm, _⟩ => Kd.same (k := .t) sm hT) ?_ ?_⟩
    · rintro i v T σ G hv ⟨N1, zs1, o5, o6, rfl, sm, hN1, g1, er⟩ hTn
      obtain ⟨d, hdi, hvd⟩ := DpAll.at' hds hv
      have hm := List.mem_of_getElem? hdi
      obtain ⟨hlt, ed⟩ := List.getElem?_eq_some_iff.mp hdi
      rw [show ds.drop i = d :: ds.drop (i + 1) by rw [List.drop_eq_getElem_cons hlt, ed]] at er
      have mT := same_upd (o := .tup [.int (c + (i : Nat)), v]) hTn
      have s1 := sm.trans mT
      refine ⟨_, _, rfl, SqT.of upd_same, rfl, _, _, rfl, _, _, rfl, rfl, ?_⟩
      refine ⟨_, rfl, _, rfl, _, rfl, A, ps.map V.int, rfl, .inl (Same.tup s1 hA), _, rfl, ?_, fun T2 hT2 => ?_⟩
      · rw [List.length_append, List.length_map]
        exact Nat.le_trans (show ps.length + 1 ≤ 51 by omega) (by decide)
      have ep : ps.map V.int ++ [V.int (c + (i : Nat))] = (ps ++ [c + (i : Nat)]).map V.int := by
        rw [List.map_append]
        rfl
      rw [ep] at *
      have mT2 := same_upd (o := .tup ((ps ++ [c + (i : Nat)]).map V.int)) hT2
      have s2 := s1.trans mT2
      refine ⟨N1, T2, v, zs1, d, l, ps ++ [c + (i : Nat)], rfl, (mT.trans mT2).seq hN1, g1, Dp.same s2 _ _ hvd, hS d hm, SqT.of upd_same, by rw [List.length_append]; show ps.length + 1 + n ≤ 50; omega, fun ys hys N2 G2 e2 hN2 => ?_, fun e he dd H' s3 ed2 => ?_⟩
      · refine ⟨N2, ys, _, _, rfl, s2.trans e2, hN2, step_gz (l := l) (n := n) (fun _ _ _ _ _ hd g e => nb_gz hd g e) (hS d hm) g1 hys, ?_⟩
        rw [← er, listE_ok hys]
        rw [show c + ((i + 1 : Nat) : Int) = c + (i : Nat) + 1 by omega]
      · rw [listE_err he] at er
        exact q2 e er.symm dd H' (s2.trans s3) ed2
    · rintro σ G ⟨N1, zs1, o5, o6, rfl, sm, hN1, g1, er⟩
      rw [lx, List.drop_length] at er
      exact ⟨_, rfl, q1 zs1 er.symm N1 G sm hN1⟩
end
end Lw

set_option maxRecDepth 100000
set_option linter.unusedVariables false
namespace Lw
open PySem PySem.Spec PyProof.Rows L2 VG

section
variable {P : Program} {w : World} {K : PySem.W.Frag} {mg : Str → Option Value} {base : Heap}
def spCheckNt (K : PySem.W.Frag) : Sp := fun vs H Q _ => ∃ (N : Addr) (zs : List Str), vs = [.ref N] ∧ SqT K H N (zs.map V.str) ∧ zs.Nodup ∧ (∀ z ∈ zs, nameB z = true ∧ z.length ≤ 1000) ∧ zs.length ≤ 3 ∧ ∀ H', Same H H' → Q .non H'
theorem ok_checkNt {f fN : Addr} {fd fdN : FuncData} {u : Value} (F : Fun K "check_names" "check_names" s_check_names f fd) (en : mg "enumerate" = none) (ln : mg "len" = none) (mM : mg "MOST_AT_FIRST" = some u) (rM : RelV (.int 3) u)
    (GN : FnOk P w K mg base CX0 2 fN fdN ["value"] spName) (mN : mg "is_name" = some (.ref fN)) (kN : PySem.W.keepIn K (.ref fN) = true) (bN : Binds K fdN ["value"] []) :
    FnOk P w K mg base CX0 3 f fd ["names"] (spCheckNt K) := by
  refine F.ok scCheckNs (fun vs H Q E h => ?_) (fun cdv A outer s H vs Q E hr h => ?_)
  · obtain ⟨N, zs, rfl, _⟩ := h
    rfl
  · obtain ⟨N, zs, rfl, hN, hnd, hok, l3, q⟩ := h
    have nd := scCheckNs.nd
    refine ⟨_, C8.pss_cut (ps_for PassesOwn.never rfl (pi_tup (pv 0)) (pg_name (i := 1) nd rfl (Or.inl rfl)) (pss_one (ps_if (pt_not (pt_val (pe_call GN hr (by rfl) mN kN bN .nil pass0 (pa_cons (pv 1) pa_nil)))) (pss_one ps_false) pss_nil)))
      (C8.pss_cut (ps_for PassesOwn.never rfl (pi_enumG (by rfl) en (pa_cons (pv 0) pa_nil)) (pg_tup (by rfl) (pgs_cons (pg_name (i := 2) nd rfl (Or.inl rfl)) (pgs_cons (pg_name (i := 1) nd rfl (Or.inl rfl)) pgs_nil)))
          (pss_one (ps_if (pt_cmpR op_in_seq (pv 1) (pe_slice sl_tupA (pv 0) po_none (po_some (pv 2))) (by rfl)) (pss_one ps_false) pss_nil)))
        (pss_one (ps_if (pt_cmpR op_gt (pe_callB call_len_seq (by rfl) ln PySem.boot_len (pa_cons (pv 0) pa_nil)) (pe_glob (v := .int 3) (by rfl) mM rM) (nomark _)) (pss_one ps_false) pss_nil))), ?_⟩
    refine ⟨fun σ G => ∃ o1 o2 : Option V, σ = [some (.ref N), o1, o2] ∧ Same H G, ?_, ?_⟩
    · refine ⟨_, rfl, N, rfl, ⟨_, hN⟩, for_tup (K := K) (a := N) (xs := zs.map V.str) (fun i σ G => ∃ o1 o2 : Option V, σ = [some (.ref N), o1, o2] ∧ Same H G) ⟨_, _, rfl, Same.refl H⟩ (fun i σ G _ ⟨_, _, _, sm⟩ => Same.tup sm hN) ?_ (fun σ G h => h)⟩
      rintro i v σ G hv ⟨o1, o2, rfl, sm⟩
      rw [List.getElem?_map] at hv
      obtain ⟨z, hz, rfl⟩ := Option.map_eq_some_iff.mp hv
      obtain ⟨z1, z2⟩ := hok z (List.mem_of_getElem? hz)
      refine ⟨_, rfl, z, rfl, z2, _, rfl, ?_⟩
      rw [z1]
      exact iteF ⟨_, _, rfl, sm⟩
    rintro σ G ⟨o1, o2, rfl, sm⟩
    refine ⟨fun σ G => ∃ o1 o2 : Option V, σ = [some (.ref N), o1, o2] ∧ Same H G, ?_, ?_⟩
    · refine ⟨_, rfl, N, .t, _, rfl, Same.tup sm hN, for_enumG (K := K) (k := .t) (a := N) (xs := zs.map V.str) (fun i σ G => ∃ o1 o2 : Option V, σ = [some (.ref N), o1, o2] ∧ Same H G) ⟨_, _, rfl, sm⟩ (fun i σ G ⟨_, _, _, sm⟩ => Same.tup sm hN) ?_ (fun σ G h => h)⟩
      rintro i v T σ G hv ⟨o1, o2, rfl, sm⟩ hT
      rw [List.getElem?_map] at hv
      obtain ⟨z, hz, rfl⟩ := Option.map_eq_some_iff.mp hv
      have mT := same_upd (o := .tup [.int (i : Nat), .str z]) hT
      refine ⟨_, _, rfl, SqT.of upd_same, rfl, _, _, rfl, _, _, rfl, rfl, ?_⟩
      refine ⟨_, rfl, _, rfl, _, rfl, _, rfl, N, _, rfl, Same.tup (sm.trans mT) hN, fun hw => absurd hw.2 ?_, fun _ L hL => ?_⟩
      · have li := (List.getElem?_eq_some_iff.mp hz).1
        rw [HT.sIx_nat, List.length_map]
        omega
      rw [cutV_take, ← List.map_take]
      have mL := same_upd (o := .tup ((zs.take i).map V.str)) hL
      refine ⟨L, _, rfl, .inr (SqT.of upd_same), rfl, flat_strs2 _, _, rfl, ?_⟩
      have ni : z ∉ zs.take i := fun h => by
        obtain ⟨j, hj⟩ := List.mem_iff_getElem?.mp h
        have lj : j < i := by
          by_cases c : j < i
          · exact c
          · rw [List.getElem?_take, if_neg c] at hj
            cases hj
        rw [List.getElem?_take, if_pos lj] at hj
        obtain ⟨a1, b1⟩ := List.getElem?_eq_some_iff.mp hj
        obtain ⟨a2, b2⟩ := List.getElem?_eq_some_iff.mp hz
        exact List.pairwise_iff_getElem.mp hnd j i a1 a2 lj (b1.trans b2.symm)
      simp only [Bool.false_eq_true, if_false]
      rw [inV_not ni]
      exact iteF ⟨_, _, rfl, sm.trans (mT.trans mL)⟩
    rintro σ G ⟨o1, o2, rfl, sm⟩
    refine ⟨_, rfl, N, _, rfl, .inr (Same.tup sm hN), _, _, rfl, rfl, _, rfl, ?_⟩
    rw [decide_eq_false (by rw [List.length_map]; omega)]
    exact iteF (q G sm)
theorem ok_neverX {CX : CXT} {k : Nat} {f : Addr} {fd : FuncData} {ps : List Str} : FnOk P w K mg base CX k f fd ps (fun _ _ _ _ => False) := ⟨fun _ _ _ _ h => h.elim, fun _ _ _ _ _ _ _ _ _ _ _ _ _ h => h.elim⟩
variable {CU CD CM CE : Addr} {fB fI fR fS fC fT fN fK fW : Addr} {fdB fdI fdR fdS fdC fdT fdN fdK fdW : FuncData}
theorem ok_nb {d2 : List V} {d3 : List Value} (FB : FunD K "names_behind" "names_behind" (defArgs s_names_behind) (defBody s_names_behind) (defScope s_names_behind) d2 [] fB fdB) (mB : mg "names_behind" = some (.ref fB)) (kB : PySem.W.keepIn K (.ref fB) = true) (b4 : Binds K fdB NB4 []) (b3 : Binds K fdB NB4 d3) (v3 : Vals [.int 0] d3)
    (FS : Fun K "_names_behind_step" "_names_behind_step" s__names_behind_step fS fdS) (mS : mg "_names_behind_step" = some (.ref fS)) (kS : PySem.W.keepIn K (.ref fS) = true) (bS : Binds K fdS ["names", "step", "path"] [])
    (FI : Fun K "_names_behind_if" "_names_behind_if" s__names_behind_if fI fdI) (mI : mg "_names_behind_if" = some (.ref fI)) (kI : PySem.W.keepIn K (.ref fI) = true) (bI : Binds K fdI ["names", "step", "path"] [])
    (FR : Fun K "_names_behind_repeat" "_names_behind_repeat" s__names_behind_repeat fR fdR) (mR : mg "_names_behind_repeat" = some (.ref fR)) (kR : PySem.W.keepIn K (.ref fR) = true) (bR : Binds K fdR ["names", "step", "path"] [])
    (GK : FnOk P w K mg base CX0 1 fK fdK ["step"] (spKnown K)) (mK : mg "known_names" = some (.ref fK)) (kK : PySem.W.keepIn K (.ref fK) = true) (bK : Binds K fdK ["step"] [])
    (GW : FnOk P w K mg base (L2.CX P w) 6 fW fdW ["names", "name"] (spWith K CU CD CM CE)) (mW : mg "_names_with" = some (.ref fW)) (kW : PySem.W.keepIn K (.ref fW) = true) (bW : Binds K fdW ["names", "name"] [])
    (GC : ∀ n, FnOk P w K mg base CX0 (n + 1) fC fdC ["steps", "word"] (spCountW K n)) (mC : mg "count_word" = some (.ref fC)) (kC : PySem.W.keepIn K (.ref fC) = true) (bC : Binds K fdC ["steps", "word"] [])
    (GT : FnOk P w K mg base CX0 1 fT fdT ["step"] (spTimesOf K)) (mT : mg "times_of" = some (.ref fT)) (kT : PySem.W.keepIn K (.ref fT) = true) (bT : Binds K fdT ["step"] [])
    (GN : FnOk P w K mg base CX0 1 fN fdN ["step"] (spInner K)) (mN : mg "inner_steps" = some (.ref fN)) (kN : PySem.W.keepIn K (.ref fN) = true) (bN : Binds K fdN ["step"] [])
    (XU : ErrL P w K mg base "UnknownName" ["name"] CU 4 2) (XE : ErrC P w K mg base "UnlikeEnds" ["path"] CE 4 2)
    (en : mg "enumerate" = none) (ln : mg "len" = none) (rg : mg "range" = none) : ∀ n, FnOk P w K mg base (L2.CX P w) (3 * n + 9) fB fdB NB4 (spNB K CU CD CM CE (n + 1)) := by
  intro n
  induction n with
  | zero =>
    have lf : ∀ {l : Nat} {d : PyData}, OkS l 0 d → wordD d ≠ "if" ∧ wordD d ≠ "repeat" := fun {l d} h => by
      obtain ⟨u, ks, items, hm, rfl, _⟩ := h.2
      obtain ⟨_, n1, n2, _⟩ := shl_words _ hm
      exact ⟨n1, n2⟩
    have GI : FnOk P w K mg base (L2.CX P w) 7 fI fdI ["names", "step", "path"] (spNI K CU CD CM CE 0) := (ok_neverX).imp fun vs H Q E h => by
      obtain ⟨N, A, x, zs, d, l, ps, _, _, _, _, ho, hw, _⟩ := h
      exact (lf ho).1 hw
    have GR : FnOk P w K mg base (L2.CX P w) 7 fR fdR ["names", "step", "path"] (spNP K CU CD CM CE 0) := (ok_neverX).imp fun vs H Q E h => by
      obtain ⟨N, A, x, zs, d, l, ps, _, _, _, _, ho, hw, _⟩ := h
      exact (lf ho).2 hw
    have GS := ok_nStep (k := 6) (by omega) FS GK mK kK bK GI mI kI bI GR mR kR bR GW mW kW bW XU
    exact ok_nList FB en GS mS kS bS
  | succ n ih =>
    have GI := ok_nIf (k := 3 * n + 9) (n := n + 1) (by omega) (by omega) FI ln ih mB kB b4 b3 v3 (GC (n + 3)) mC kC bC XE
    have GR := ok_nRep (k := 3 * n + 9) (n := n + 1) (by omega) FR rg ih mB kB b3 v3 GT mT kT bT GN mN kN bN
    have GS := ok_nStep (k := 3 * n + 9) (by omega) FS GK mK kK bK GI mI kI bI GR mR kR bR GW mW kW bW XU
    exact ok_nList FB en GS mS kS bS
end
end Lw

set_option maxRecDepth 100000
set_option linter.unusedVariables false
/-! List comprehensions of any number of clauses: `PBd` what stands behind a clause's tests, `pbd_loop` a further clause's loop, `pbd_item` the item at the end; `pe_lcN`, and `pe_lc3` of three clauses. -/
namespace VG
open PySem PySem.Spec PyProof.Rows L2
/-- a clause's turn, body what stands behind its tests -/
def turnOf (e : Expr) (k : Nat) (t i : Expr) (ifs : List Expr) (it acc : Value) (env : Env) (body : Sem Fin → Sem Fin) : Sem Fin := do
  standAt i.pos
  match ← pyNext it with
  | none => pure (.done .next)
  | some v =>
    letOwnedTupleGo t it v
    assign t env v
    let mut ok := true
    for c in ifs do
      if ok then ok ← isTrue c env (eval c env)
    if ok then body (again (.compLoop e k it acc env))
    else again (.compLoop e k it acc env)
/-- the next clause's loop, from its source on -/
def nextOf (e : Expr) (k : Nat) (i : Expr) (acc : Value) (env : Env) (rest : Sem Fin) : Sem Fin := do
  let x ← eval i env
  standAt i.pos
  let x ← foldedSetIterable i env x
  let _ ← runOwn (.compStart e k (← holding [x] (pyIter x)) acc env) env
  rest
/-- the item -/
def itemOf (elt : Expr) (acc : Value) (env : Env) (rest : Sem Fin) : Sem Fin := do
  (do let _ ← call (.builtin "list.append") [acc, ← eval elt env])
  rest
theorem turn3_0 (elt t0 i0 t1 i1 t2 i2 : Expr) (f0 f1 f2 : List Expr) (scope : Scope) (pos : Pos) (it acc : Value) (env : Env) :
    compTurn (.ListComp elt [⟨t0, i0, f0, 0⟩, ⟨t1, i1, f1, 0⟩, ⟨t2, i2, f2, 0⟩] scope pos) 0 it acc env = turnOf (.ListComp elt [⟨t0, i0, f0, 0⟩, ⟨t1, i1, f1, 0⟩, ⟨t2, i2, f2, 0⟩] scope pos) 0 t0 i0 f0 it acc env (nextOf (.ListComp elt [⟨t0, i0, f0, 0⟩, ⟨t1, i1, f1, 0⟩, ⟨t2, i2, f2, 0⟩] scope pos) 1 i1 acc env) := rfl
theorem turn3_1 (elt t0 i0 t1 i1 t2 i2 : Expr) (f0 f1 f2 : List Expr) (scope : Scope) (pos : Pos) (it acc : Value) (env : Env) :
    compTurn (.ListComp elt [⟨t0, i0, f0, 0⟩, ⟨t1, i1, f1, 0⟩, ⟨t2, i2, f2, 0⟩] scope pos) 1 it acc env = turnOf (.ListComp elt [⟨t0, i0, f0, 0⟩, ⟨t1, i1, f1, 0⟩, ⟨t2, i2, f2, 0⟩] scope pos) 1 t1 i1 f1 it acc env (nextOf (.ListComp elt [⟨t0, i0, f0, 0⟩, ⟨t1, i1, f1, 0⟩, ⟨t2, i2, f2, 0⟩] scope pos) 2 i2 acc env) := rfl
theorem turn3_2 (elt t0 i0 t1 i1 t2 i2 : Expr) (f0 f1 f2 : List Expr) (scope : Scope) (pos : Pos) (it acc : Value) (env : Env) :
    compTurn (.ListComp elt [⟨t0, i0, f0, 0⟩, ⟨t1, i1, f1, 0⟩, ⟨t2, i2, f2, 0⟩] scope pos) 2 it acc env = turnOf (.ListComp elt [⟨t0, i0, f0, 0⟩, ⟨t1, i1, f1, 0⟩, ⟨t2, i2, f2, 0⟩] scope pos) 2 t2 i2 f2 it acc env (itemOf elt acc env) := rfl
section
variable {prog : Program} {w : World} {A : Around} {R : Result → Shared → Prop} {s : Shared} {elt t i : Expr} {gs : List Comprehension} {scope : Scope} {pos : Pos} {ifs : List Expr} {k : Nat} {it acc : Value} {env : Env} {body : Sem Fin → Sem Fin}
/-- a clause's loop -/
theorem loop_of (eq : compTurn (.ListComp elt gs scope pos) k it acc env = turnOf (.ListComp elt gs scope pos) k t i ifs it acc env body) (I : Nat → Shared → Prop)
    (turn : ∀ n s, I n s → wpAny (model prog w) A (pyNext it) (fun r s1 => match r with
      | none => R (.ok .next) s1
      | some v => wpAny (model prog w) A (letOwnedTupleGo t it v) (fun _ s2 => wpAny (model prog w) A (assign t env v) (fun _ s3 =>
          wpAny (model prog w) A (forIn ifs true fun c r => if r = true then do let ok ← isTrue c env (eval c env); pure (ForInStep.yield ok) else pure (ForInStep.yield r)) (fun ok s4 =>
            if ok = true then ∀ (rest : Sem Fin) (Q : Fin → Shared → Prop), (∀ s5, (∃ m, m < n ∧ I m s5) → wpAny (model prog w) A rest Q (fun _ _ => False) s5) → wpAny (model prog w) A (body rest) Q (fun _ _ => False) s4 else ∃ m, m < n ∧ I m s4) (fun _ _ => False) s3) (fun _ _ => False) s2) (fun _ _ => False) s1) (fun _ _ => False) s)
    (n : Nat) (h : I n s) : codeAny (model prog w) A (.compLoop (.ListComp elt gs scope pos) k it acc env) R s := by
  refine codeAny_loop rfl I (fun n s hI => ?_) n h
  show wpAny _ A ((compTurn (.ListComp elt gs scope pos) k it acc env).onRaise (fun x => do noteFrame x env; theTreesLotGoes x)) _ _ s
  refine wpAny_noted ?_
  rw [eq]
  unfold turnOf
  refine wpAny_bind (wpAny_standAt (wpAny_bind (wpAny_mono (turn n s hI) (fun r s1 h1 => ?_) fun _ _ z => z.elim)))
  cases r with
  | none => exact wpAny_pure h1
  | some v =>
    refine wpAny_bind (wpAny_mono h1 (fun _ s2 h2 => ?_) fun _ _ z => z.elim)
    refine wpAny_bind (wpAny_mono h2 (fun _ s3 h3 => wpAny_bind (wpAny_mono h3 (fun ok s4 h4 => ?_) fun _ _ z => z.elim)) fun _ _ z => z.elim)
    cases ok with
    | false => exact wpAny_pure ⟨rfl, h4⟩
    | true =>
      exact wpAny_mono (h4 _ _ fun s5 h5 => wpAny_pure ⟨rfl, h5⟩) (fun _ _ z => z) fun _ _ z => z.elim
/-- a clause's start: its iterator may be asked for its own -/
theorem start_of (hcl : (clausesOf (.ListComp elt gs scope pos))[k]? = some ⟨t, i, ifs, 0⟩) (h0 : codeAny (model prog w) A (.compLoop (.ListComp elt gs scope pos) k it acc env) R s)
    (h : wpAny (model prog w) A (pyIter it) (fun it' s' => codeAny (model prog w) A (.compLoop (.ListComp elt gs scope pos) k it' acc env) R s') (fun _ _ => False) s) :
    codeAny (model prog w) A (.compStart (.ListComp elt gs scope pos) k it acc env) R s := by
  refine codeAny_of_tree ?_
  show wpAny _ _ ((compStart (.ListComp elt gs scope pos) k it acc env).onRaise (fun x => do noteFrame x env; standAt theWindowsPlace)) _ _ s
  refine wpAny_notedAt ?_
  unfold compStart
  rw [hcl]
  show wpAny _ _ (ask >>= _) _ _ s
  refine wpAny_bind (wpAny_askSetting (wpAny_ite ?_))
  split
  · first
      | exact wpAny_bind (wpAny_pure (wpAny_pure (And.intro rfl h0)))
      | exact wpAny_pure (And.intro rfl h0)
  · refine wpAny_bind (wpAny_rule ?_)
    first
      | exact wpAny_bind (wpAny_standAt (wpAny_bind (wpAny_mono h (fun it' s' h' => wpAny_pure (And.intro rfl h')) fun _ _ x => x.elim)))
      | (show wpAny _ _ (standAt i.pos >>= _) _ _ s; exact wpAny_bind (wpAny_standAt (wpAny_bind (wpAny_mono h (fun it' s' h' => wpAny_pure (And.intro rfl h')) fun _ _ x => x.elim))))
end
/-- what stands behind a clause's tests, in a block: the next clause's loop, or the item; vs: the slots that it leaves unknown -/
structure PBd (X : Cx) (body : Sem Fin → Sem Fin) (vs : List Nat) (tb : L2.St → Hp → (Hp → Prop) → Prop) : Prop where
  run : ∀ (pins : List (Addr × Obj)) (s : Shared) (σ : L2.St) (H : Hp) (N : Hp → Prop) (rest : Sem Fin) (Q : Fin → Shared → Prop), Inv X pins σ H s → tb σ H N →
    (∀ s' H', Inv X pins (wipe σ vs) H' s' → N H' → wpAny (model X.prog X.w) X.A rest Q (fun _ _ => False) s') → wpAny (model X.prog X.w) X.A (body rest) Q (fun _ _ => False) s
/-- a further clause -/
def tLev (wi : TI) (g : TG) (tt : TT) (tb : L2.St → Hp → (Hp → Prop) → Prop) (vs : List Nat) : L2.St → Hp → (Hp → Prop) → Prop := fun σ H Q => wi σ H fun J H1 => ∃ W : Nat → Nat → Hp → Prop, (∃ m, W 0 m H1) ∧ ∀ i m H, W i m H →
  (J.stop i H ∧ Q H) ∨ (J.go i H ∧ ∃ Nx : Hp → Prop, (∀ H', Nx H' → ∃ m', m' < m ∧ W (i + 1) m' H') ∧ ∀ x H', J.yld i H x H' → g x (wipe σ vs) H' fun σ2 H2 => wipe σ2 vs = wipe σ vs ∧ tt σ2 H2 fun b H3 =>
    if b = true then tb σ2 H3 Nx else Nx H3)
/-- the item, put behind the list at D -/
def tItem (te : TE) (D : Addr) : L2.St → Hp → (Hp → Prop) → Prop := fun σ H Q => te σ H fun y H1 => ∃ acc, H1 D = some (.lst acc) ∧ acc.length < sizeLine ∧ Q (upd H1 D (.lst (acc ++ [y])))
section
variable {X : Cx}
theorem pbd_item {elt : Expr} {te : TE} {D : Addr} (hx : X.xe = fun _ _ => False) (he : PE X elt te) : PBd X (itemOf elt (.ref D) X.env) [] (tItem te D) := by
  refine ⟨fun pins s σ H N rest Q I h hr => ?_⟩
  have h1 := he.run pins s σ H _ I h
  rw [hx] at h1
  unfold itemOf
  refine wpAny_bind (wpAny_bind (thnF h1 fun z s1 ⟨yv, H1, I1, r1, acc, hD, hz, nx⟩ => wpAny_bind ?_))
  exact app_ok I1 hD hz r1 fun s2 I2 => wpAny_pure (hr s2 _ I2 nx)
/-- the loop of a clause in a block -/
theorem clause_loop {elt t i : Expr} {gs : List Comprehension} {scope : Scope} {pos : Pos} {ifs : List Expr} {k : Nat} {acc : Value} {body : Sem Fin → Sem Fin} {vs vs2 : List Nat} {g : TG} {tt : TT} {tb : L2.St → Hp → (Hp → Prop) → Prop} {pins : List (Addr × Obj)} {σ : L2.St} {H : Hp} {s : Shared} {R : Result → Shared → Prop}
    {J : It} {it : Addr} {fp : List Addr} {tn : Nat → Heap → Prop} {W : Nat → Nat → Hp → Prop} {m0 : Nat} {Qd : Hp → Prop}
    (hx : X.xe = fun _ _ => False) (hc : X.calm = true) (eq : ∀ it, compTurn (.ListComp elt gs scope pos) k it acc X.env = turnOf (.ListComp elt gs scope pos) k t i ifs it acc X.env body)
    (T : Turn X.prog X.w X.K t J fp it tn) (hg : PG X t g) (ht : PTs X ifs tt) (hb : PBd X body vs2 tb) (hv : ∀ j ∈ vs2, j ∈ vs)
    (I : Inv X pins (wipe σ vs) H s) (st : tn 0 s.heap) (f : ∀ b ∈ fp, FpOk X pins H b) (w0 : W 0 m0 H)
    (turn : ∀ i m H, W i m H → (J.stop i H ∧ Qd H) ∨ (J.go i H ∧ ∃ Nx : Hp → Prop, (∀ H', Nx H' → ∃ m', m' < m ∧ W (i + 1) m' H') ∧ ∀ x H', J.yld i H x H' → g x (wipe σ vs) H' fun σ2 H2 => wipe σ2 vs = wipe σ vs ∧ tt σ2 H2 fun b H3 =>
      if b = true then tb σ2 H3 Nx else Nx H3))
    (fin : ∀ s' H', Inv X pins (wipe σ vs) H' s' → Qd H' → R (.ok .next) s') : codeAny (model X.prog X.w) X.A (.compLoop (.ListComp elt gs scope pos) k (.ref it) acc X.env) R s := by
  have stat : ∀ {H' : Hp}, (∀ b ∈ fp, H' b = none) → ∀ b ∈ fp, FpOk X pins H' b := fun hn b hb => ⟨hn b hb, (f b hb).2⟩
  refine loop_of (eq _) (fun n s' => ∃ j H', Inv X pins (wipe σ vs) H' s' ∧ tn j s'.heap ∧ (∀ b ∈ fp, H' b = none) ∧ W j n H') ?_ m0 ⟨0, H, I, st, fun b hb => (f b hb).1, w0⟩
  rintro n s1 ⟨j, H1, I1, st1, n1, w1⟩
  rcases turn j n H1 w1 with ⟨stop, nx⟩ | ⟨go, Nx, hNx, step⟩
  · refine thnF (T.done X rfl rfl rfl hc j _ s1 (wipe σ vs) H1 (fun _ _ => False) I1 (stat n1) st1 stop) fun r s2 ⟨hr, I2⟩ => ?_
    subst hr
    exact fin s2 H1 I2 nx
  · refine thnF (T.item X rfl rfl rfl hc j _ s1 (wipe σ vs) H1 (fun _ _ => False) I1 (stat n1) st1 go) fun r s2 ⟨u, hr, h2⟩ => ?_
    subst hr
    refine thnF h2 fun _ s3 ⟨x, H3, I3, r3, y3, st3, n3⟩ => ?_
    have I3' := I3.pinned (stat n3) (T.obj _ _ st3)
    have a1 := hg.run _ s3 (wipe σ vs) H3 x u _ I3' r3 (step x H3 y3)
    rw [hx] at a1
    refine thnF a1 fun _ s4 ⟨σ4, H4, I4, hw4, q4⟩ => ?_
    have a2 := ht.run _ s4 σ4 H4 _ I4 q4
    rw [hx] at a2
    refine thnF a2 fun b s5 ⟨H5, I5, q5⟩ => ?_
    have done : ∀ {σ' : L2.St} {s' : Shared} {H' : Hp}, Inv X (pins ++ pinsAt fp s3.heap) σ' H' s' → (wipe σ vs).length = σ'.length → (∀ (j : Nat) v, (wipe σ vs)[j]? = some (some v) → σ'[j]? = some (some v)) → Nx H' →
        ∃ m, m < n ∧ ∃ j H', Inv X pins (wipe σ vs) H' s' ∧ tn j s'.heap ∧ (∀ b ∈ fp, H' b = none) ∧ W j m H' := fun {σ' s' H'} I' hl hk nx => by
      obtain ⟨m', hm, w'⟩ := hNx H' nx
      have pin' : ∀ b ∈ fp, ∀ o, s3.heap.get? b = some o → s'.heap.get? b = some o ∧ H' b = none := fun b hb o e =>
        let z := I'.pin (b, o) (List.mem_append_right _ (List.mem_append_right _ (mem_pinsAt hb e)))
        ⟨z.1, z.2.1⟩
      refine ⟨m', hm, j + 1, H', I'.unpinned.weak hl hk, T.keep _ _ _ st3 fun b hb o e => (pin' b hb o e).1, fun b hb => ?_, w'⟩
      obtain ⟨o, e, _⟩ := T.obj _ _ st3 b hb
      exact (pin' b hb o e).2
    have hl4 : (wipe σ vs).length = σ4.length := by rw [← hw4, wipe_length]
    have hk4 : ∀ (j : Nat) v, (wipe σ vs)[j]? = some (some v) → σ4[j]? = some (some v) ∧ j ∉ vs := fun j v e => by
      rw [← hw4] at e
      exact wipe_some e
    cases b with
    | false =>
      simp only [Bool.false_eq_true, if_false] at q5 ⊢
      exact done I5 hl4 (fun j v e => (hk4 j v e).1) q5
    | true =>
      simp only [if_true] at q5 ⊢
      intro rest Q hrest
      refine hb.run _ s5 σ4 H5 Nx rest Q I5 q5 fun s6 H6 I6 nx6 => hrest s6 (done I6 (hl4.trans (wipe_length _ _).symm) (fun j v e => ?_) nx6)
      obtain ⟨e1, e2⟩ := hk4 j v e
      rw [wipe_out fun z => e2 (hv j z)]
      exact e1
theorem pbd_loop {elt t i : Expr} {gs : List Comprehension} {scope : Scope} {pos : Pos} {ifs : List Expr} {k : Nat} {acc : Value} {body : Sem Fin → Sem Fin} {vs vs2 : List Nat} {wi : TI} {g : TG} {tt : TT} {tb : L2.St → Hp → (Hp → Prop) → Prop}
    (hx : X.xe = fun _ _ => False) (hc : X.calm = true) (hcl : (clausesOf (.ListComp elt gs scope pos))[k]? = some ⟨t, i, ifs, 0⟩) (eq : ∀ it, compTurn (.ListComp elt gs scope pos) k it acc X.env = turnOf (.ListComp elt gs scope pos) k t i ifs it acc X.env body)
    (hs : ∀ x, foldedSetIterable i X.env x = pure x) (hi : PI X t i wi) (hg : PG X t g) (ht : PTs X ifs tt) (hb : PBd X body vs2 tb) (hv : ∀ j ∈ vs2, j ∈ vs) :
    PBd X (nextOf (.ListComp elt gs scope pos) k i acc X.env) vs (tLev wi g tt tb vs) := by
  refine ⟨fun pins s σ H N rest Q I h hr => ?_⟩
  have a0 := hi.run pins s σ H _ I h
  rw [hx] at a0
  unfold nextOf
  refine wpAny_bind (thnF a0 fun xv s1 h1 => ?_)
  refine wpAny_bind (wpAny_standAt (wpAny_bind (wpAny_of_eq (hs xv) (wpAny_bind (wpAny_holding (thnF h1 fun itv s2 h2 => ?_))))))
  obtain ⟨it, fp, tn, J, H2, e2, I2, T, st2, f2, W, ⟨m0, w0⟩, turn⟩ := h2
  subst e2
  refine wpAny_bind (wpAny_runOwn ?_)
  rw [Around.mark_none]
  have loop : codeAny (model X.prog X.w) X.A (.compLoop (.ListComp elt gs scope pos) k (.ref it) acc X.env) (fun r s' => match r with
      | .ok _ => ∃ H', Inv X pins (wipe σ vs) H' s' ∧ N H'
      | .error _ => False) s2 := clause_loop hx hc eq T hg ht hb hv (I2.weak (wipe_length _ _) fun j v e => (wipe_some e).1) st2 f2 w0 turn fun s' H' I' n => ⟨H', I', n⟩
  refine codeAny_mono (start_of hcl loop (T.self X.A 0 _ _ _ st2 loop)) fun r s' hr' => ?_
  cases r with
  | ok f =>
    obtain ⟨H', I', n⟩ := hr'
    first
      | exact wpAny_pure (hr s' H' I' n)
      | exact wpAny_bind (wpAny_pure (hr s' H' I' n))
      | exact hr s' H' I' n
  | error e => exact hr'.elim
/-- [elt for tg in iter if .. for ..]: behind the first clause's tests whatever tb tells -/
def tLcN (wi : TI) (g : TG) (tt : TT) (tb : Addr → L2.St → Hp → (Hp → Prop) → Prop) (vs : List Nat) : TE := fun σ H Q => wi σ H fun J H1 => ∀ D, H1 D = none → ∃ W : Nat → Nat → Hp → Prop, (∃ m, W 0 m (upd H1 D (.lst []))) ∧ ∀ i m H, W i m H →
  (J.stop i H ∧ Q (.ref D) H) ∨ (J.go i H ∧ ∃ Nx : Hp → Prop, (∀ H', Nx H' → ∃ m', m' < m ∧ W (i + 1) m' H') ∧ ∀ x H', J.yld i H x H' → g x (wipe σ vs) H' fun σ2 H2 => wipe σ2 vs = wipe σ vs ∧ tt σ2 H2 fun b H3 =>
    if b = true then tb D σ2 H3 Nx else Nx H3)
theorem pe_lcN {elt tg iter : Expr} {ifs : List Expr} {rest : List Comprehension} {scope : Scope} {own : List (Str × Nat)} {vs2 : List Nat} {pos : Pos} {wi : TI} {g : TG} {tt : TT} {tb : Addr → L2.St → Hp → (Hp → Prop) → Prop} {body : Value → Env → Sem Fin → Sem Fin}
    (hc : X.calm = true) (hN : X.N.Nodup) (hi : PI X tg iter wi) (ok : BlkOk X.N X.env.scope scope own) (hv : ∀ j ∈ vs2, j ∈ own.map (·.2))
    (eq : ∀ it acc env, compTurn (.ListComp elt (⟨tg, iter, ifs, 0⟩ :: rest) scope pos) 0 it acc env = turnOf (.ListComp elt (⟨tg, iter, ifs, 0⟩ :: rest) scope pos) 0 tg iter ifs it acc env (body acc env))
    (hg : ∀ (s : Shared) (H : Hp) (C : Addr) (cl : List (Str × Addr)) (fp : List Addr), PG (X.blk s H scope (compEnvC scope cl C X.env) fp) tg g) (ht : ∀ (s : Shared) (H : Hp) (C : Addr) (cl : List (Str × Addr)) (fp : List Addr), PTs (X.blk s H scope (compEnvC scope cl C X.env) fp) ifs tt)
    (hb : ∀ (s : Shared) (H : Hp) (C : Addr) (cl : List (Str × Addr)) (fp : List Addr) (D : Addr), PBd (X.blk s H scope (compEnvC scope cl C X.env) fp) (body (.ref D) (compEnvC scope cl C X.env)) vs2 (tb D)) (hs : ∀ x, foldedSetIterable iter X.env x = pure x) :
    PE X (.ListComp elt (⟨tg, iter, ifs, 0⟩ :: rest) scope pos) (tLcN wi g tt tb (own.map (·.2))) := by
  refine ⟨fun pins s σ H Q I h => ?_⟩
  rw [eval_ListComp]
  have hfree : ∀ y ∈ scope.names, y.2 = .free → ∃ c, X.env.cells.lookup y.1 = some c := fun y hy e => (ok.free y hy e).elim (fun k => I.ok.has _ (.inl k)) fun k => I.ok.has _ (.inr k)
  refine wpAny_comprehension_free (use := none) (Q := EP X pins σ Q) rfl hs (closure_ok hfree) ok.kind (fun y hy e => by rw [ok.uniq y hy, e])
    (thn (hi.run pins s σ H _ I h) fun xv s1 hx => thn hx fun itv s2 h2 => ?_)
  obtain ⟨it, fp, tn, J, H2, e2, I2, T, st2, f2, q⟩ := h2
  subst e2
  refine wpAny_newObj_type (newEnv_comp ?_) (by show 0 ≤ sizeLine; decide)
  obtain ⟨D, hD⟩ : ∃ D, s2.heap.objs.size = D := ⟨_, rfl⟩
  rw [hD]
  have hDn : H2 D = none := I2.hok.fresh (Nat.le_of_eq hD)
  obtain ⟨W, ⟨m0, w0⟩, turn⟩ := q D hDn
  -- the new list
  obtain ⟨s3, hs3⟩ : ∃ s3 : Shared, s3 = { s2 with heap := s2.heap.push { cls := .type "list", data := .seq ([] : List Value).toArray } } := ⟨_, rfl⟩
  have h3 : s3.heap = s2.heap.push { cls := .type "list", data := .seq ([] : List Value).toArray } := by rw [hs3]
  have kp3 : ∀ b o, s2.heap.get? b = some o → s3.heap.get? b = some o := fun b o e => by
    rw [h3]
    exact Heap.get?_push_of_some _ e
  have I3 : Inv X pins σ (upd H2 D (.lst [])) s3 := by
    rw [hs3]
    refine I2.laid (t' := s2.toks) (fun b o e => Heap.get?_push_of_some _ e) (Nat.le_of_eq hD) ⟨Nat.zero_le _, [], 0, .nil, ?_⟩
    rw [← hD]
    exact Heap.get?_push_size _ rfl
  rw [← hs3]
  have f3 : ∀ b ∈ fp, FpOk X pins (upd H2 D (.lst [])) b ∧ b < s3.heap.objs.size := fun b hb => by
    obtain ⟨o, e, _⟩ := T.obj _ _ st2 b hb
    have hlt := Heap.lt_size e
    refine ⟨⟨?_, (f2 b hb).2⟩, by rw [h3, Heap.size_push]; exact Nat.lt_succ_of_lt hlt⟩
    rw [upd_ne fun z => absurd (z.trans hD.symm) (Nat.ne_of_lt hlt)]
    exact (f2 b hb).1
  have st3 : tn 0 s3.heap := T.keep _ _ _ st2 fun b _ o e => kp3 b o e
  have I4 := block_start I3 ok hN f3
  have pg := hg s3 (upd H2 D (.lst [])) s3.heap.objs.size (cellsFrom (s3.heap.objs.size + 1) scope.names (cloFrom X.env.cells scope.names [])) fp
  have pt := ht s3 (upd H2 D (.lst [])) s3.heap.objs.size (cellsFrom (s3.heap.objs.size + 1) scope.names (cloFrom X.env.cells scope.names [])) fp
  have pb := hb s3 (upd H2 D (.lst [])) s3.heap.objs.size (cellsFrom (s3.heap.objs.size + 1) scope.names (cloFrom X.env.cells scope.names [])) fp D
  have st4 : tn 0 (pushCells (s3.heap.push { cls := .type "dict", data := .dict #[] }) scope.names) := T.keep _ _ _ st3 fun b _ o e => pushCells_keeps _ _ _ _ (Heap.get?_push_of_some _ e)
  have fb : ∀ b ∈ fp, FpOk (X.blk s3 (upd H2 D (.lst [])) scope (compEnvC scope (cellsFrom (s3.heap.objs.size + 1) scope.names (cloFrom X.env.cells scope.names [])) s3.heap.objs.size X.env) fp) [] (upd H2 D (.lst [])) b := fun b hb =>
    ⟨(f3 b hb).1.1, (I4.ok.exf b hb).1, I4.ok.exfs b hb, .inl hb, fun x c e => (I4.ok.exf b hb).2 x c e, fun p hp => absurd (show p ∈ ([] : List (Addr × Obj)) ++ [] from hp) (by simp)⟩
  have loop := clause_loop (X := X.blk s3 (upd H2 D (.lst [])) scope (compEnvC scope (cellsFrom (s3.heap.objs.size + 1) scope.names (cloFrom X.env.cells scope.names [])) s3.heap.objs.size X.env) fp) (R := compPost (model X.prog X.w) X.A X.xe none (EP X pins σ Q) (.ref D) s3.heap.objs.size) (Qd := fun H => Q (.ref D) H) rfl hc (fun it => eq it (.ref D) _) T pg pt pb hv I4 st4 fb w0 turn fun s' H' I' qq => ?_
  · exact codeAny_compStart_list loop (T.self X.A 0 _ _ _ st4 loop)
  · have I7 : Inv X pins σ H' s' := I3.call' (ch := fp) I'.os I'.base I'.hok I'.bare fun b hb => ⟨(f3 b hb).1.2.2.2.1, (f3 b hb).1.2.1, (f3 b hb).1.2.2.2.2.1, (f3 b hb).1.2.2.2.2.2⟩
    obtain ⟨m, hn, _⟩ := I'.loc
    have nC : H' s3.heap.objs.size = none := I'.free
    refine ⟨m, hn, fun h'' sb => ?_⟩
    obtain ⟨f0, f1, f4, f5, f6, f7⟩ := I3.fpOk (Nat.le_refl _) nC
    exact ⟨.ref D, H', I7.turned (t' := s'.toks) (fun b o hb e => (sb.2 b hb).trans e) f0 f1 f5 f6 f7, rfl, qq⟩
/-- three clauses -/
theorem pe_lc3 {elt t0 i0 t1 i1 t2 i2 : Expr} {f0 f1 f2 : List Expr} {scope : Scope} {own : List (Str × Nat)} {vs1 vs2 : List Nat} {pos : Pos} {w0 w1 w2 : TI} {g0 g1 g2 : TG} {tt0 tt1 tt2 : TT} {te : TE}
    (hc : X.calm = true) (hN : X.N.Nodup) (hi0 : PI X t0 i0 w0) (ok : BlkOk X.N X.env.scope scope own) (hv1 : ∀ j ∈ vs1, j ∈ own.map (·.2)) (hv2 : ∀ j ∈ vs2, j ∈ vs1)
    (hg0 : ∀ (s : Shared) (H : Hp) (C : Addr) (cl : List (Str × Addr)) (fp : List Addr), PG (X.blk s H scope (compEnvC scope cl C X.env) fp) t0 g0) (ht0 : ∀ (s : Shared) (H : Hp) (C : Addr) (cl : List (Str × Addr)) (fp : List Addr), PTs (X.blk s H scope (compEnvC scope cl C X.env) fp) f0 tt0)
    (hi1 : ∀ (s : Shared) (H : Hp) (C : Addr) (cl : List (Str × Addr)) (fp : List Addr), PI (X.blk s H scope (compEnvC scope cl C X.env) fp) t1 i1 w1)
    (hg1 : ∀ (s : Shared) (H : Hp) (C : Addr) (cl : List (Str × Addr)) (fp : List Addr), PG (X.blk s H scope (compEnvC scope cl C X.env) fp) t1 g1) (ht1 : ∀ (s : Shared) (H : Hp) (C : Addr) (cl : List (Str × Addr)) (fp : List Addr), PTs (X.blk s H scope (compEnvC scope cl C X.env) fp) f1 tt1)
    (hi2 : ∀ (s : Shared) (H : Hp) (C : Addr) (cl : List (Str × Addr)) (fp : List Addr), PI (X.blk s H scope (compEnvC scope cl C X.env) fp) t2 i2 w2)
    (hg2 : ∀ (s : Shared) (H : Hp) (C : Addr) (cl : List (Str × Addr)) (fp : List Addr), PG (X.blk s H scope (compEnvC scope cl C X.env) fp) t2 g2) (ht2 : ∀ (s : Shared) (H : Hp) (C : Addr) (cl : List (Str × Addr)) (fp : List Addr), PTs (X.blk s H scope (compEnvC scope cl C X.env) fp) f2 tt2)
    (he : ∀ (s : Shared) (H : Hp) (C : Addr) (cl : List (Str × Addr)) (fp : List Addr), PE (X.blk s H scope (compEnvC scope cl C X.env) fp) elt te)
    (hs0 : ∀ x, foldedSetIterable i0 X.env x = pure x := by intro _; rfl) (hs1 : ∀ env x, foldedSetIterable i1 env x = pure x := by intro _ _; rfl) (hs2 : ∀ env x, foldedSetIterable i2 env x = pure x := by intro _ _; rfl) :
    PE X (.ListComp elt [⟨t0, i0, f0, 0⟩, ⟨t1, i1, f1, 0⟩, ⟨t2, i2, f2, 0⟩] scope pos) (tLcN w0 g0 tt0 (fun D => tLev w1 g1 tt1 (tLev w2 g2 tt2 (tItem te D) vs2) vs1) (own.map (·.2))) :=
  pe_lcN (vs2 := vs1) (body := fun acc env => nextOf (.ListComp elt [⟨t0, i0, f0, 0⟩, ⟨t1, i1, f1, 0⟩, ⟨t2, i2, f2, 0⟩] scope pos) 1 i1 acc env) hc hN hi0 ok hv1 (fun it acc env => turn3_0 elt t0 i0 t1 i1 t2 i2 f0 f1 f2 scope pos it acc env) hg0 ht0
    (fun s H C cl fp D => pbd_loop rfl hc rfl (fun it => turn3_1 elt t0 i0 t1 i1 t2 i2 f0 f1 f2 scope pos it (.ref D) _) (hs1 _) (hi1 s H C cl fp) (hg1 s H C cl fp) (ht1 s H C cl fp)
      (pbd_loop rfl hc rfl (fun it => turn3_2 elt t0 i0 t1 i1 t2 i2 f0 f1 f2 scope pos it (.ref D) _) (hs2 _) (hi2 s H C cl fp) (hg2 s H C cl fp) (ht2 s H C cl fp) (pbd_item rfl (he s H C cl fp)) (fun j z => by cases z)) hv2) hs0
end
section
variable {K : PySem.W.Frag} {a : Addr} {xs : List V} {g : TG} {tt : TT} {tb : L2.St → Hp → (Hp → Prop) → Prop} {vs : List Nat} {σ : L2.St} {H1 : Hp} {Qd : Hp → Prop}
/-- a clause over a list -/
theorem lev_list (Pv : Nat → Hp → Prop) (h0 : Pv 0 H1) (hl : ∀ i H, i ≤ xs.length → Pv i H → SqL K H a xs)
    (hs : ∀ i x H, xs[i]? = some x → Pv i H → g x (wipe σ vs) H fun σ2 H2 => wipe σ2 vs = wipe σ vs ∧ tt σ2 H2 fun b H3 => if b = true then tb σ2 H3 (Pv (i + 1)) else Pv (i + 1) H3) (hd : ∀ H, Pv xs.length H → Qd H) :
    ∃ W : Nat → Nat → Hp → Prop, (∃ m, W 0 m H1) ∧ ∀ i m H, W i m H → ((Itl K a).stop i H ∧ Qd H) ∨ ((Itl K a).go i H ∧ ∃ Nx : Hp → Prop, (∀ H', Nx H' → ∃ m', m' < m ∧ W (i + 1) m' H') ∧ ∀ x H', (Itl K a).yld i H x H' → g x (wipe σ vs) H' fun σ2 H2 => wipe σ2 vs = wipe σ vs ∧ tt σ2 H2 fun b H3 =>
      if b = true then tb σ2 H3 Nx else Nx H3) := by
  refine ⟨fun i m H => m = xs.length - i ∧ i ≤ xs.length ∧ Pv i H, ⟨_, rfl, Nat.zero_le _, h0⟩, ?_⟩
  rintro i m H ⟨rfl, hi, p⟩
  have q := hl i H hi p
  rcases Nat.lt_or_eq_of_le hi with lt | rfl
  · refine .inr ⟨⟨xs, xs[i], q, List.getElem?_eq_getElem lt⟩, Pv (i + 1), fun H' p' => ⟨xs.length - (i + 1), by omega, rfl, lt, p'⟩, fun x H' y => ?_⟩
    obtain ⟨rfl, y⟩ := y
    exact hs i x _ (y xs q) p
  · exact .inl ⟨⟨xs, q, Nat.le_refl _⟩, hd H p⟩
/-- over a tuple -/
theorem lev_tup (Pv : Nat → Hp → Prop) (h0 : Pv 0 H1) (hl : ∀ i H, i ≤ xs.length → Pv i H → SqT K H a xs)
    (hs : ∀ i x H, xs[i]? = some x → Pv i H → g x (wipe σ vs) H fun σ2 H2 => wipe σ2 vs = wipe σ vs ∧ tt σ2 H2 fun b H3 => if b = true then tb σ2 H3 (Pv (i + 1)) else Pv (i + 1) H3) (hd : ∀ H, Pv xs.length H → Qd H) :
    ∃ W : Nat → Nat → Hp → Prop, (∃ m, W 0 m H1) ∧ ∀ i m H, W i m H → ((Itt K a).stop i H ∧ Qd H) ∨ ((Itt K a).go i H ∧ ∃ Nx : Hp → Prop, (∀ H', Nx H' → ∃ m', m' < m ∧ W (i + 1) m' H') ∧ ∀ x H', (Itt K a).yld i H x H' → g x (wipe σ vs) H' fun σ2 H2 => wipe σ2 vs = wipe σ vs ∧ tt σ2 H2 fun b H3 =>
      if b = true then tb σ2 H3 Nx else Nx H3) := by
  refine ⟨fun i m H => m = xs.length - i ∧ i ≤ xs.length ∧ Pv i H, ⟨_, rfl, Nat.zero_le _, h0⟩, ?_⟩
  rintro i m H ⟨rfl, hi, p⟩
  have q := hl i H hi p
  rcases Nat.lt_or_eq_of_le hi with lt | rfl
  · refine .inr ⟨⟨xs, xs[i], q, List.getElem?_eq_getElem lt⟩, Pv (i + 1), fun H' p' => ⟨xs.length - (i + 1), by omega, rfl, lt, p'⟩, fun x H' y => ?_⟩
    obtain ⟨rfl, y⟩ := y
    exact hs i x _ (y xs q) p
  · exact .inl ⟨⟨xs, q, Nat.le_refl _⟩, hd H p⟩
end
end VG

set_option maxRecDepth 100000
set_option linter.unusedVariables false
set_option maxHeartbeats 1000000
/-! sorted(xs, key=f), f an own def: the keys made one by one, then the order that they tell. -/
namespace VG
open PySem PySem.Spec PyProof.Rows L2
/-- the keys, made one by one -/
def keysQ (step : V → Hp → VK → Prop) : List V → List V → Hp → (List V → Hp → Prop) → Prop
  | [], ks, H, C => C ks H
  | x :: xs, ks, H, C => step x H fun k H1 => keysQ step xs (ks ++ [k]) H1 C
section
variable {X : Cx} {pins : List (Addr × Obj)} {σ : L2.St} {H : Hp} {s : Shared} {a k : Addr}
/-- an address of ours that nothing of the frame names -/
structure Off (X : Cx) (pins : List (Addr × Obj)) (a : Addr) : Prop where
  lo : X.s_0.heap.objs.size ≤ a
  lc : a ≠ X.env.locals
  cl : ∀ x c, X.env.cells.lookup x = some c → c ≠ a
  pn : ∀ p ∈ X.pn ++ pins, p.1 ≠ a
  fs : a ∉ X.fs
theorem Off.of (I : Inv X pins σ H s) (ha : s.heap.objs.size ≤ a) : Off X pins a :=
  ⟨Nat.le_trans I.sz ha, fun z => absurd (Nat.lt_of_lt_of_le I.lt ha) (by rw [z]; exact Nat.lt_irrefl _), fun x c e z => by
    obtain ⟨v, o, ho, hd⟩ := I.cell x c e
    exact absurd (Nat.lt_of_lt_of_le (Heap.lt_size ho) ha) (by rw [z]; exact Nat.lt_irrefl _), fun p hp z => by
    exact absurd (Nat.lt_of_lt_of_le (Heap.lt_size (I.pin p hp).1) ha) (by rw [z]; exact Nat.lt_irrefl _), I.nofs ha⟩
theorem pin_turn {oa o1 o2 : Obj} {h' : Heap} {t' : Nat} (I : Inv X (pins ++ [(a, oa), (k, o1)]) σ H s) (ka : a ≠ k) (Ok : Off X pins k) (kp : ∀ b o, b ≠ k → s.heap.get? b = some o → h'.get? b = some o) (h2 : h'.get? k = some o2) (d2 : ∀ v, o2.data ≠ .cell v) :
    Inv X (pins ++ [(a, oa), (k, o2)]) σ H { s with heap := h', toks := t' } := by
  have pk := I.pin (k, o1) (List.mem_append_right _ (List.mem_append_right _ (by simp)))
  have pa := I.pin (a, oa) (List.mem_append_right _ (List.mem_append_right _ (by simp)))
  have J := I.unpinned.turned (t' := t') (it := k) kp pk.2.1 Ok.lc (.inr Ok.lo) Ok.cl Ok.pn
  refine J.pins_of fun p hp => ?_
  rcases List.mem_append.mp hp with hp | hp
  · exact J.pin p (List.mem_append_right _ hp)
  · rcases List.mem_cons.mp hp with rfl | hp
    · exact ⟨kp _ _ ka pa.1, pa.2⟩
    · rw [List.mem_singleton.mp hp]
      exact ⟨h2, pk.2.1, Ok.lc, Ok.fs, d2⟩
theorem vals_at {xs : List V} {vs : List Value} (r : Vals xs vs) : ∀ {i : Nat} {v : Value}, vs[i]? = some v → ∃ x, xs[i]? = some x ∧ RelV x v := by
  induction r with
  | nil => intro i v h; cases h
  | cons h _ ih =>
    intro i v e
    match i, e with
    | 0, e =>
      cases e
      exact ⟨_, rfl, h⟩
    | i + 1, e => exact ih e
theorem drop_one {α : Type} : ∀ {l : List α} {i : Nat} {x : α}, l[i]? = some x → l.drop i = x :: l.drop (i + 1)
  | x :: l, 0, _, h => by
    cases h
    rfl
  | x :: l, i + 1, y, h => by
    show l.drop i = _ :: l.drop (i + 1)
    exact drop_one h
/-- what the keys must tell at the end -/
def KeyFin (X : Cx) (A' : Around) (pins : List (Addr × Obj)) (σ : L2.St) (vs : List Value) (a : Addr) (C : List V → Hp → Prop) (P : PySem.Fin → Shared → Prop) : Prop :=
  ∀ (s' : Shared) (H' : Hp) (ks : List V) (kA : List Value) (pins' : List (Addr × Obj)), Inv X (pins ++ pins') σ H' s' → Vals ks kA → C ks H' → kA.length = vs.length → H' a = none →
    ∃ κ : PyProof.Rows.KeyKind, PySem.W.SortsAt X.prog X.w A' s' κ kA ∧
      ∀ (h' : Heap) (c t' : Nat), Inv X (pins ++ [(a, seqObj "list" (PySem.W.sortVals κ false kA vs).toArray c)]) σ H' { s' with heap := h', toks := t' } → P (.done (.ret .none)) { s' with heap := h', toks := t' }
theorem seq_cell {n : String} {xs : Array Value} {e : Nat} : ∀ v, (seqObj n xs e).data ≠ .cell v := fun v z => by cases z
theorem kq_tail {A' : Around} {E : Value → Shared → Prop} {st : SortSt} {kA : Array Value} {vs out : List Value} {e e1 : Nat} {P : PySem.Fin → Shared → Prop} (I : Inv X (pins ++ [(a, seqObj "list" #[] e1), (k, seqObj "list" kA e)]) σ H s) (ka : a ≠ k) (Oa : Off X pins a) (Ok : Off X pins k) (h64 : vs.length < 64) (hk : kA.size = vs.length) (ho : out.length = vs.length) (hfl : failedOf st = none) (eo : (arrOf st).map (·.2) = out.toArray)
    (h : ∀ (h' : Heap) (c t' : Nat), Inv X (pins ++ [(a, seqObj "list" out.toArray c)]) σ H { s with heap := h', toks := t' } → P (.done (.ret .none)) { s with heap := h', toks := t' }) :
    wpAny (model X.prog X.w) A' (ksk_tail a false e1 (.ref k) st) P E s := by
  have pk := I.pin (k, seqObj "list" kA e) (List.mem_append_right _ (List.mem_append_right _ (by simp)))
  have pa := I.pin (a, seqObj "list" #[] e1) (List.mem_append_right _ (List.mem_append_right _ (by simp)))
  have s1 := Heap.SameBut.update s.heap k (Obj.mapSeq fun _ => (#[] : Array Value))
  have na1 : (s.heap.update k (Obj.mapSeq fun _ => (#[] : Array Value))).get? a = some (seqObj "list" #[] e1) := (s1.2 a ka).trans pa.1
  have s2 := Heap.SameBut.update (s.heap.update k (Obj.mapSeq fun _ => (#[] : Array Value))) a (Obj.mapSeq fun _ => out.toArray)
  obtain ⟨c1, hc1⟩ : ∃ c1, (s.heap.update k (Obj.mapSeq fun _ => (#[] : Array Value))).get? k = some (seqObj "list" #[] c1) := ⟨_, get?_update_seq pk.1 fun _ => #[]⟩
  obtain ⟨c2, hc2⟩ : ∃ c2, ((s.heap.update k (Obj.mapSeq fun _ => (#[] : Array Value))).update a (Obj.mapSeq fun _ => out.toArray)).get? a = some (seqObj "list" out.toArray c2) := ⟨_, get?_update_seq na1 fun _ => out.toArray⟩
  unfold ksk_tail
  try dsimp only
  refine wpAny_bind (listUpdate_at pk.1 rfl ?_ (by rw [hk, sizeLine_eq]; omega) (Nat.zero_le _))
  refine wpAny_bind (wpAny_letGo ?_)
  refine wpAny_bind (seqEpoch_at na1 rfl ?_)
  refine wpAny_bind (listUpdate_at na1 rfl ?_ (Nat.zero_le _) (by simp only [Bool.false_eq_true, if_false]; rw [eo, List.size_toArray, ho, sizeLine_eq]; omega))
  rw [hfl]
  simp only [bne_self_eq_false, Bool.false_eq_true, if_false]
  rw [eo]
  refine wpAny_pure (h _ c2 _ ?_)
  have J := pin_turn (t' := s.toks) I ka Ok (fun b o nb z => (s1.2 b nb).trans z) hc1 seq_cell
  have J1 := J.unpinned.turned (t' := s.toks) (it := a) (h' := (s.heap.update k (Obj.mapSeq fun _ => (#[] : Array Value))).update a (Obj.mapSeq fun _ => out.toArray)) (fun b o nb z => (s2.2 b nb).trans z) pa.2.1 Oa.lc (.inr Oa.lo) Oa.cl Oa.pn
  refine J1.pins_of fun p hp => ?_
  rcases List.mem_append.mp hp with hp | hp
  · exact J1.pin p (List.mem_append_right _ hp)
  · rw [List.mem_singleton.mp hp]
    exact ⟨hc2, pa.2.1, Oa.lc, Oa.fs, seq_cell⟩
open PySem.W in
theorem kq_end {A' : Around} {E : Value → Shared → Prop} {kA : Array Value} {vs : List Value} {ks : List V} {e e1 : Nat} {C : List V → Hp → Prop} {P : PySem.Fin → Shared → Prop} (I : Inv X (pins ++ [(a, seqObj "list" #[] e1), (k, seqObj "list" kA e)]) σ H s) (ka : a ≠ k) (Oa : Off X pins a) (Ok : Off X pins k) (h64 : vs.length < 64) (hk : kA.size = vs.length) (rk : Vals ks kA.toList) (hC : C ks H)
    (fin : KeyFin X A' pins σ vs a C P) : wpAny (model X.prog X.w) A' (ksk_end a false vs.toArray e1 (.ref k) kA) P E s := by
  have pa := I.pin (a, seqObj "list" #[] e1) (List.mem_append_right _ (List.mem_append_right _ (by simp)))
  obtain ⟨κ, S, done⟩ := fin s H ks kA.toList _ I rk hC (by rw [Array.length_toList]; exact hk) pa.2.1
  obtain ⟨kd, h1, h2⟩ := S.kind
  have hkl : kA.toList.length = vs.length := by
    rw [Array.length_toList]
    exact hk
  have hK : PyProof.Rows.KeysOf κ (kA.zip vs.toArray) := keysOf_zip S.keys
  have hol : (sortVals κ false kA.toList vs).length = vs.length := sortVals_length false hkl
  have hzs : (kA.zip vs.toArray).size = vs.length := by rw [Array.size_zip, hk, List.size_toArray, Nat.min_self]
  have fin2 : ∀ st' : SortSt, (arrOf st').Perm (kA.zip vs.toArray) → SortedToK κ (arrOf st') (kA.zip vs.toArray).size → Stable κ (arrOf st') (kA.zip vs.toArray) → (arrOf st').map (·.2) = (sortVals κ false kA.toList vs).toArray := by
    intro st' hp hs ht
    have e := sort_out (rev := false) (keys := kA) (items := vs.toArray) (xs := arrOf st') (κ := κ) hK hp hs ht
    have e' := congrArg List.toArray e
    rw [Array.toArray_toList] at e'
    exact e'
  unfold ksk_end
  try dsimp only
  simp only [Bool.false_eq_true, if_false]
  by_cases hl2 : vs.toArray.size < 2
  · rw [if_pos hl2, if_pos hl2]
    refine wpAny_bind (wpAny_pure ?_)
    rw [StateT.run_pure]
    refine wpAny_bind (wpAny_pure ?_)
    try dsimp only
    refine kq_tail (st := SortSt.mk' general' (kA.zip vs.toArray) #[] 7 none) (out := sortVals κ false kA.toList vs) I ka Oa Ok h64 hk hol rfl (fin2 _ (Array.Perm.refl _) ?_ (Stable.refl _)) done
    intro i j hij hj
    rw [hzs] at hj
    rw [List.size_toArray] at hl2
    have : i = j := by omega
    subst this
    exact KeyOrd.kle_refl _
  · rw [if_neg hl2, if_neg hl2]
    rw [List.size_toArray] at hl2
    have h2' := h2 (by rw [hkl]; omega)
    rw [Array.toArray_toList] at h2'
    refine wpAny_bind (h2' _ ?_)
    refine wpAny_bind (wpAny_mono (PyProof.Rows.H.wpS_sortRunsSt (κ := κ) (kd := kd) (a₀ := kA.zip vs.toArray)
      (st := SortSt.mk' kd (kA.zip vs.toArray) #[] 7 none)
      (Q := fun _ st' => failedOf st' = none ∧ (arrOf st').map (·.2) = (sortVals κ false kA.toList vs).toArray)
      h1 hK ⟨Array.Perm.refl _, rfl, rfl⟩ rfl (Stable.refl _) (by rw [hzs]; omega) fun st' a1 a2 a3 a4 => ⟨a2, fin2 st' a1 a3 a4⟩) ?_ fun _ _ e => e)
    rintro ⟨⟨⟩, st'⟩ s' ⟨rfl, hf, ho⟩
    try dsimp only at ho ⊢
    exact kq_tail (st := st') I ka Oa Ok h64 hk hol hf ho done
theorem kq_rest {A' : Around} {E : Value → Shared → Prop} {f : Value} {vs : List Value} {xs : List V} {e1 : Nat} {step : V → Hp → VK → Prop} {C : List V → Hp → Prop} {P : PySem.Fin → Shared → Prop} (I : Inv X (pins ++ [(a, seqObj "list" #[] e1), (k, seqObj "list" #[] 0)]) σ H s) (ka : a ≠ k) (Oa : Off X pins a) (Ok : Off X pins k) (h64 : vs.length < 64) (rv : Vals xs vs)
    (turn : ∀ (pins' : List (Addr × Obj)) (x : V) (v : Value) (H : Hp) (s : Shared) (Q : VK), Inv X pins' σ H s → RelV x v → step x H Q → wpAny (model X.prog X.w) A' (call f [v]) (EP X pins' σ Q) (fun _ _ => False) s)
    (q : keysQ step xs [] H C) (fin : KeyFin X A' pins σ vs a C P) : wpAny (model X.prog X.w) A' (ksk_rest a f false vs.toArray e1 (.ref k)) P E s := by
  unfold ksk_rest
  refine wpAny_bind (wpAny_rule ?_)
  first
    | rw [List.forIn_toArray]
    | (rw [← Array.forIn_toList]; simp only [List.toList_toArray])
    | rw [← Array.forIn_toList]
  refine wpAny_bind (ksk_fold (fun i s' => ∃ (H' : Hp) (kA : Array Value) (e : Nat) (ks : List V), Inv X (pins ++ [(a, seqObj "list" #[] e1), (k, seqObj "list" kA e)]) σ H' s' ∧ Vals ks kA.toList ∧ kA.size = i ∧ keysQ step (xs.drop i) ks H' C) vs 0 s
    ⟨H, #[], 0, [], I, .nil, rfl, q⟩ ?step ?done)
  case step =>
    rintro j v s' hv ⟨H', kA, e, ks, J, rk, lk, qk⟩
    simp only [Nat.zero_add] at lk qk ⊢
    obtain ⟨x, hx, rx⟩ := vals_at rv hv
    rw [drop_one hx] at qk
    have hj : j < vs.length := (List.getElem?_eq_some_iff.mp hv).1
    refine wpAny_bind (wpAny_attempt (wpAny_mono (turn _ x v H' s' _ J rx qk) (fun u s'' he => ?_) fun _ _ hF => hF.elim))
    obtain ⟨y, H2, J2, ry, q2⟩ := he
    try dsimp only
    have nk := J2.pin (k, seqObj "list" kA e) (List.mem_append_right _ (List.mem_append_right _ (by simp)))
    have s1 := Heap.SameBut.update s''.heap k (Obj.mapSeq (·.push u))
    obtain ⟨c2, hc2⟩ : ∃ c2, (s''.heap.update k (Obj.mapSeq (·.push u))).get? k = some (seqObj "list" (kA.push u) c2) := ⟨_, get?_update_seq nk.1 (·.push u)⟩
    refine wpAny_bind (listUpdate_at nk.1 rfl ?_ (by rw [lk, sizeLine_eq]; omega) (Nat.le_trans (Nat.le_of_eq (Array.size_push ..)) (by rw [lk, sizeLine_eq]; omega)))
    refine wpAny_pure ⟨rfl, H2, kA.push u, c2, ks ++ [y], pin_turn (t' := s''.toks) J2 ka Ok (fun b o nb z => (s1.2 b nb).trans z) hc2 seq_cell, ?_, by rw [Array.size_push, lk], q2⟩
    rw [Array.toList_push]
    exact rk.append (.cons ry .nil)
  case done =>
    rintro s' ⟨H', kA, e, ks, J, rk, lk, qk⟩
    simp only [Nat.zero_add] at lk qk
    have lx : xs.length = vs.length := rv.length
    rw [List.drop_of_length_le (by omega)] at qk
    have nk := J.pin (k, seqObj "list" kA e) (List.mem_append_right _ (List.mem_append_right _ (by simp)))
    try dsimp only
    refine wpAny_bind (listItems_at nk.1 rfl ?_)
    exact kq_end J ka Oa Ok h64 lk rk qk fin
theorem kq_sort {A' : Around} {E : Value → Shared → Prop} {f : Value} {vs : List Value} {xs : List V} {n : Nat} {step : V → Hp → VK → Prop} {C : List V → Hp → Prop} {P : PySem.Fin → Shared → Prop} (I : Inv X (pins ++ [(a, seqObj "list" vs.toArray n)]) σ H s) (Oa : Off X pins a) (h64 : vs.length < 64) (rv : Vals xs vs)
    (turn : ∀ (pins' : List (Addr × Obj)) (x : V) (v : Value) (H : Hp) (s : Shared) (Q : VK), Inv X pins' σ H s → RelV x v → step x H Q → wpAny (model X.prog X.w) A' (call f [v]) (EP X pins' σ Q) (fun _ _ => False) s)
    (q : keysQ step xs [] H C) (fin : KeyFin X A' pins σ vs a C P) : wpAny (model X.prog X.w) A' (ksk_tree a f false) P E s := by
  have pa := I.pin (a, seqObj "list" vs.toArray n) (List.mem_append_right _ (List.mem_append_right _ (by simp)))
  have ho := pa.1
  have ha : a < s.heap.objs.size := Heap.lt_size ho
  have s1 := Heap.SameBut.update s.heap a (Obj.mapSeq fun _ => (#[] : Array Value))
  obtain ⟨e1, ho1⟩ : ∃ e1, (s.heap.update a (Obj.mapSeq fun _ => (#[] : Array Value))).get? a = some (seqObj "list" #[] e1) := ⟨_, get?_update_seq ho fun _ => #[]⟩
  have hkS : ((s.heap.update a (Obj.mapSeq fun _ => (#[] : Array Value))).push (seqObj "tuple" vs.toArray 0)).objs.size = s.heap.objs.size + 1 := by rw [size_push', Heap.size_update]
  have J0 := I.unpinned.turned (t' := s.toks) (it := a) (h' := s.heap.update a (Obj.mapSeq fun _ => (#[] : Array Value))) (fun b o nb z => (s1.2 b nb).trans z) pa.2.1 Oa.lc (.inr Oa.lo) Oa.cl Oa.pn
  have J1 := J0.kept (t' := s.toks) (h' := ((s.heap.update a (Obj.mapSeq fun _ => (#[] : Array Value))).push (seqObj "tuple" vs.toArray 0)).push (seqObj "list" #[] 0)) fun b u z => Heap.get?_push_of_some _ (Heap.get?_push_of_some _ z)
  have Ok : Off X pins ((s.heap.update a (Obj.mapSeq fun _ => (#[] : Array Value))).push (seqObj "tuple" vs.toArray 0)).objs.size := Off.of I.unpinned (by rw [hkS]; exact Nat.le_succ _)
  have hkn : H ((s.heap.update a (Obj.mapSeq fun _ => (#[] : Array Value))).push (seqObj "tuple" vs.toArray 0)).objs.size = none := I.hok.fresh (by rw [hkS]; exact Nat.le_succ _)
  have ka : a ≠ ((s.heap.update a (Obj.mapSeq fun _ => (#[] : Array Value))).push (seqObj "tuple" vs.toArray 0)).objs.size := by
    rw [hkS]
    exact Nat.ne_of_lt (Nat.lt_succ_of_lt ha)
  unfold ksk_tree
  refine wpAny_bind (listItems_at ho rfl ?_)
  refine wpAny_bind (listUpdate_at ho rfl ?_ (by rw [List.size_toArray, sizeLine_eq]; omega) (Nat.zero_le _))
  refine wpAny_bind (seqEpoch_at ho1 rfl ?_)
  refine wpAny_bind (wpAny_newTuple ?_ (by show vs.length ≤ _; rw [sizeLine_eq]; omega))
  refine wpAny_bind (wpAny_newList ?_ (Nat.zero_le _))
  refine wpAny_holding ?_
  refine kq_rest (H := H) (s := { s with heap := ((s.heap.update a (Obj.mapSeq fun _ => (#[] : Array Value))).push (seqObj "tuple" vs.toArray 0)).push (seqObj "list" #[] 0) }) (k := ((s.heap.update a (Obj.mapSeq fun _ => (#[] : Array Value))).push (seqObj "tuple" vs.toArray 0)).objs.size) (J1.pins_of fun p hp => ?_) ka Oa Ok h64 rv turn q fin
  rcases List.mem_append.mp hp with hp | hp
  · exact J1.pin p (List.mem_append_right _ hp)
  · rcases List.mem_cons.mp hp with rfl | hp
    · exact ⟨Heap.get?_push_of_some _ (Heap.get?_push_of_some _ ho1), pa.2.1, Oa.lc, Oa.fs, seq_cell⟩
    · rw [List.mem_singleton.mp hp]
      exact ⟨Heap.get?_push_size _ rfl, hkn, Ok.lc, Ok.fs, seq_cell⟩
end
end VG

set_option maxRecDepth 100000
set_option linter.unusedVariables false
set_option maxHeartbeats 1000000
/-! sorted(xs, key=f): the call, its reading; keys that are tuples. -/
namespace VG
open PySem PySem.Spec PyProof.Rows L2
section
variable {X : Cx} {pins : List (Addr × Obj)} {σ : L2.St} {H : Hp} {s : Shared} {a k : Addr}
/-- a pinned object of ours comes to be tracked -/
theorem adopt {oa : Obj} {o : HO} (I : Inv X (pins ++ [(a, oa)]) σ H s) (Oa : Off X pins a) (new : ObjOk X.prog X.w (upd H a o) s.heap a o) : Inv X pins σ (upd H a o) s := by
  have pa := I.pin (a, oa) (List.mem_append_right _ (List.mem_append_right _ (by simp)))
  have J := I.unpinned
  have ne : ∀ {b : Addr} {u : HO}, H b = some u → b ≠ a := fun {b u} e z => by
    rw [z, pa.2.1] at e
    cases e
  refine ⟨J.ok, J.os, J.bare, ⟨J.base.keep, J.base.slot, fun b o e n x => ?_, J.base.there, fun b xs e => ?_, fun b o u e => ?_, fun b ps e => ?_⟩, J.loc, J.cell, ?_, fun x c e => ?_, fun p hp => ?_, J.hok.laidN (fun _ _ z => z) pa.2.1 new, J.len⟩
  · have lt := Heap.lt_size e
    rw [upd_ne (fun z => absurd (Nat.lt_of_lt_of_le lt Oa.lo) (by rw [z]; exact Nat.lt_irrefl _))]
    exact J.base.free b o e n x
  · have z := J.base.tups b xs e
    rw [upd_ne (ne z)]
    exact z
  · have z := J.base.frzs b o u e
    rw [upd_ne (ne z)]
    exact z
  · obtain ⟨m, z⟩ := J.base.tbls b ps e
    refine ⟨m, ?_⟩
    rw [upd_ne (ne z)]
    exact z
  · rw [upd_ne (Ne.symm Oa.lc)]
    exact J.free
  · rw [upd_ne (Oa.cl x c e)]
    exact J.freeC x c e
  · obtain ⟨p1, p2, p3⟩ := J.pin p hp
    refine ⟨p1, ?_, p3⟩
    rw [upd_ne (Oa.pn p hp)]
    exact p2
theorem kq_sorted {l f : Addr} {vs : List Value} {xs : List V} {step : V → Hp → VK → Prop} {C : List V → Hp → Prop} {Q : Value → Shared → Prop} {E : Value → Shared → Prop} (I : Inv X pins σ H s) (hl : s.heap.IsList l vs.toArray) (h64 : vs.length < 64) (rv : Vals xs vs)
    (turn : ∀ (pins' : List (Addr × Obj)) (x : V) (v : Value) (H : Hp) (s : Shared) (Q : VK), Inv X pins' σ H s → RelV x v → step x H Q → wpAny (model X.prog X.w) X.A.in1.in1 (call (.ref f) [v]) (EP X pins' σ Q) (fun _ _ => False) s)
    (q : keysQ step xs [] H C)
    (fin : ∀ (s' : Shared) (H' : Hp) (ks : List V) (kA : List Value) (pins' : List (Addr × Obj)), Inv X (pins ++ pins') σ H' s' → Vals ks kA → C ks H' → kA.length = vs.length →
      ∃ κ : PyProof.Rows.KeyKind, PySem.W.SortsAt X.prog X.w X.A.in1.in1 s' κ kA ∧
        ∀ (D : Addr) (h' : Heap) (c t' : Nat), H' D = none → Off X pins D → Inv X (pins ++ [(D, seqObj "list" (PySem.W.sortVals κ false kA vs).toArray c)]) σ H' { s' with heap := h', toks := t' } → Q (.ref D) { s' with heap := h', toks := t' }) :
    wpAny (model X.prog X.w) X.A (call (.builtin "sorted") [.ref l] [(Str.ofString "key", .ref f)]) Q E s := by
  refine call_function_entry_kw kind_sorted plain_sorted entry_sorted (ksk_s1 _ _) ?_
  unfold Builtin.«sorted»
  refine wpAny_bind (m := checkCount "sorted" 1 1 _) (wpAny_pure ?_)
  refine wpAny_bind (collect_list hl ?_ (by rw [sizeLine_eq]; omega))
  refine wpAny_bind (wpAny_newList ?_ (by rw [sizeLine_eq]; omega))
  have hsz : ((s.heap.push (seqObj "list" #[] 0)).update s.heap.objs.size (Obj.mapSeq (· ++ vs.toArray))).objs.size = s.heap.objs.size + 1 := by
    rw [Heap.size_update, size_push']
  have hoL : (((s.heap.push (seqObj "list" #[] 0)).update s.heap.objs.size (Obj.mapSeq (· ++ vs.toArray))).push (seqObj "list" vs.toArray 0)).get? (s.heap.objs.size + 1) = some (seqObj "list" vs.toArray 0) := by
    rw [← hsz]; exact Heap.get?_push_size _ rfl
  have keep : ∀ b o, s.heap.get? b = some o → (((s.heap.push (seqObj "list" #[] 0)).update s.heap.objs.size (Obj.mapSeq (· ++ vs.toArray))).push (seqObj "list" vs.toArray 0)).get? b = some o := fun b o q => by
    have hlt : b < s.heap.objs.size := Heap.lt_size q
    rw [Heap.get?_push_ne _ _ _ (by rw [hsz]; exact Nat.ne_of_lt (Nat.lt_succ_of_lt hlt)), Heap.get?_update_ne _ _ _ _ (Nat.ne_of_lt hlt), Heap.get?_push_ne _ _ _ (Nat.ne_of_lt hlt)]
    exact q
  have Od : Off X pins (s.heap.objs.size + 1) := Off.of I (Nat.le_succ _)
  have hn : H (s.heap.objs.size + 1) = none := I.hok.fresh (Nat.le_succ _)
  have J := I.kept (t' := s.toks) keep
  show wpAny _ _ _ _ _ { s with heap := ((s.heap.push (seqObj "list" #[] 0)).update s.heap.objs.size (Obj.mapSeq (· ++ vs.toArray))).push (seqObj "list" vs.toArray 0) }
  rw [hsz]
  refine wpAny_bind (wpAny_holding (wpAny_call_entry_kw slot_list_sort ⟨_, hoL, rfl⟩ entry_list_sort ?body (ksk_l1 _ _)))
  case body =>
    show wpAny (model X.prog X.w) X.A.in1.in1 (Builtin.«list.sort» ⟨[.ref (s.heap.objs.size + 1)], [(Str.ofString "key", .ref f)]⟩) _ _ _
    rw [ksk_t1]
    refine kq_sort (C := C) (H := H) (pins := pins) (n := 0) (J.pins_of fun p hp => ?_) Od h64 rv turn q fun s' H' ks kA pins' J' rk hC lk hD => ?_
    · rcases List.mem_append.mp hp with hp | hp
      · exact J.pin p (List.mem_append_right _ hp)
      · rw [List.mem_singleton.mp hp]
        exact ⟨hoL, hn, Od.lc, Od.fs, seq_cell⟩
    · obtain ⟨κ, S, done⟩ := fin s' H' ks kA pins' J' rk hC lk
      refine ⟨κ, S, fun h' c t' J2 => ⟨_, rfl, ?_⟩⟩
      exact wpAny_pure ⟨_, rfl, done _ h' c t' hD Od J2⟩
/-- the items, by their keys -/
noncomputable def byKeys (ds : List PyData) (xs : List V) : List V := ((ds.zip xs).mergeSort (PySem.W.dataLe false fun b : PyData × V => b.1)).map (·.2)
theorem vals_of_each : ∀ {out : List Value} {bs : List (PyData × V)}, PySem.W.EachIs (fun v b => RelV b.2 v) out bs → Vals (bs.map (·.2)) out
  | _, _, .nil => .nil
  | _, _, .cons h t => .cons h (vals_of_each t)
theorem each_zip : ∀ {ds : List PyData} {xs : List V} {vs : List Value}, ds.length = xs.length → Vals xs vs → PySem.W.EachIs (fun v (b : PyData × V) => RelV b.2 v) vs (ds.zip xs)
  | [], [], _, _, .nil => .nil
  | d :: ds, x :: xs, _, l, .cons h t => .cons h (each_zip (Nat.succ.inj l) t)
theorem each_reads {X : Cx} {pins : List (Addr × Obj)} {σ : L2.St} {H : Hp} {s : Shared} (I : Inv X pins σ H s) : ∀ {ks : List V} {kA : List Value} {ds : List PyData}, Vals ks kA → DpAll X.K H ks ds → PySem.W.EachIs (fun v d => ∃ as, PySem.Reads s.heap v d as) kA ds
  | _, _, _, .nil, .nil => .nil
  | _, _, _, .cons r t, .cons h u => .cons (Dp.reads I _ _ _ h r) (each_reads I t u)
/-- sorted(xs, key=f), f an own def at g: keys that are alike data -/
def rSortedBy (K : PySem.W.Frag) (g : Addr) (sp : Sp) : List V → List V → Hp → VK → Prop := fun vs zs H Q => ∃ (l : Addr) (xs : List V), vs = [.ref l] ∧ zs = [.ref g] ∧ SqL K H l xs ∧ xs.length < 64 ∧
  keysQ (fun x H Q => sp [x] H Q E0) xs [] H fun ks H' => ∃ ds : List PyData, DpAll K H' ks ds ∧ ds.length = xs.length ∧ PySem.W.AllAlike ds ∧ PySem.W.Sortable ds ∧ (∀ d ∈ ds, d.depth ≤ 40) ∧ ∀ p, H' p = none → Q (.ref p) (upd H' p (.lst (byKeys ds xs)))
theorem cr_sortedBy {CX : CXT} {n : Nat} {g : Addr} {sp : Sp} (F : FnR X.prog X.w X.K X.mg X.base CX n g sp) (hr : Room n X.A.in1.in1) (hu : X.A.units + 64 < cLine) (hx : Passes CX (X.wish fun _ _ => False) E0) : CallRK X (.builtin "sorted") [Str.ofString "key"] (rSortedBy X.K g sp) := by
  intro pins s σ H vs zs us ws Q I r rz h
  obtain ⟨l, xs, rfl, rfl, hs, h64, q⟩ := h
  obtain rfl := Vals.ref1 r
  obtain ⟨w1, rfl, e1⟩ := vals1 rz
  obtain rfl : w1 = Value.ref g := e1
  obtain ⟨its, rv, hl, hz⟩ := I.list hs
  have li : its.length = xs.length := rv.length.symm
  refine kq_sorted (xs := xs) I hl.isList (by omega) rv (fun pins' x v H1 s1 Q1 I1 rx q1 => ?_) q fun s' H' ks kA pins' J rk hC lk => ?_
  · refine wpAny_mono (wpAny_call (SlX.run_at (X := X.wish fun _ _ => False) (us := [v]) (ws := [x]) F hr I1.env0.in1.in1 hx (I1.wish _) (.cons rx .nil) q1)) (fun u s2 z => ?_) fun _ _ z => z
    obtain ⟨y, H2, J2, ry, q2⟩ := z
    exact ⟨y, H2, J2.unwish, ry, q2⟩
  · obtain ⟨ds, hd, ld, al, so, dp, qf⟩ := hC
    have er := each_reads J rk hd
    refine ⟨_, PySem.W.SortsAt.data er al so (fun d hm => ?_), fun D h' c t' hD Od J2 => ?_⟩
    · have := dp d hm
      have e : X.A.in1.in1.units ≤ X.A.units + 2 := Nat.le_refl _
      omega
    · have ez : (ds.zip xs).map (·.1) = ds := List.map_fst_zip (by omega)
      have ko : PySem.W.KeyedOut false ((ds.zip xs).map fun b : PyData × V => b.1) its (PySem.W.sortVals (PySem.W.dataKind s'.heap ds) false kA its) := by
        rw [ez]
        exact ⟨s'.heap, kA, al, rfl, er⟩
      have eo := PySem.W.keyedOut_each (fun b : PyData × V => b.1) ko (each_zip ld rv)
      have vo := vals_of_each eo
      refine ⟨.ref D, upd H' D (.lst (byKeys ds xs)), adopt J2 Od ⟨?_, _, c, vo, (J2.pin _ (List.mem_append_right _ (List.mem_append_right _ List.mem_cons_self))).1⟩, rfl, qf D hD⟩
      unfold byKeys
      rw [List.length_map, List.length_mergeSort, List.length_zip, ld, Nat.min_self]
      exact Nat.le_of_lt (Nat.lt_of_lt_of_le h64 (by decide))
end
end VG

set_option maxRecDepth 100000
set_option linter.unusedVariables false
set_option maxHeartbeats 1000000
/-! sorted(t, key=f), t a tuple. -/
namespace VG
open PySem PySem.Spec PyProof.Rows L2
theorem collect_tup {prog : Program} {w : World} {A : Around} {E : Value → Shared → Prop} {s : Shared} {l n : Nat} {o : Obj} {vs : List Value} {Q : List Value → Shared → Prop} (ho : s.heap.get? l = some o) (hc : o.cls = .type "tuple") (hd : o.data = .seq vs.toArray n) (hz : vs.length ≤ sizeLine)
    (h : Q vs { s with heap := (s.heap.push (seqObj "list" #[] 0)).update s.heap.objs.size (Obj.mapSeq (· ++ vs.toArray)) }) : wpAny (model prog w) A (collect (.ref l)) Q E s := by
  unfold collect
  refine wpAny_bind (wpAny_runValue (codeAny_builtin entry_proto_collect' ?_))
  show wpAny _ _ (do again (.builtin "list.__iadd__" ⟨[← newList [], .ref l], []⟩)) _ _ s
  refine wpAny_bind (wpAny_newList (wpAny_pure ⟨Code.quiet_builtin _ (by decide +kernel), codeAny_builtin entry_list_iadd' ?_⟩))
  show wpAny _ _ (Builtin.List.listExtendWith (.ref s.heap.objs.size) (.ref l) (.ref s.heap.objs.size)) _ _ { s with heap := s.heap.push (seqObj "list" #[] 0) }
  unfold Builtin.List.listExtendWith
  have h1 : (s.heap.push (seqObj "list" #[] 0)).get? l = some o := Heap.get?_push_of_some _ ho
  have h2 : (s.heap.push (seqObj "list" #[] 0)).get? s.heap.objs.size = some (seqObj "list" #[] 0) := Heap.get?_push_size _ rfl
  refine wpAny_bind (wpAny_typeOf (T := "tuple") ⟨o, h1, hc⟩ ?_)
  have ht : (Value.type "tuple" == Value.type "tuple") = true := by rfl
  rw [if_pos (by rw [ht]; simp)]
  refine wpAny_bind (listItems_at h1 hd ?_)
  refine wpAny_bind (listItems_at (n := 0) h2 rfl ?_)
  rw [if_neg (by simp)]
  refine wpAny_bind (listUpdate_at (n := 0) h2 rfl ?_ (Nat.zero_le _) (by show (#[] ++ vs.toArray).size ≤ sizeLine + 1; simp only [Array.size_append, List.size_toArray, List.length_nil]; omega))
  refine wpAny_pure ?_
  refine wpAny_bind (m := load s.heap.objs.size) (wpAny_load (get?_update_seq h2 _) ?_)
  show wpAny _ _ (pure ((#[] : Array Value) ++ vs.toArray).toList) Q E _
  rw [show ((#[] : Array Value) ++ vs.toArray).toList = vs by simp]
  exact wpAny_pure h
section
variable {X : Cx} {pins : List (Addr × Obj)} {σ : L2.St} {H : Hp} {s : Shared}
theorem kt_sorted {l f : Addr} {o : Obj} {n : Nat} {vs : List Value} {xs : List V} {step : V → Hp → VK → Prop} {C : List V → Hp → Prop} {Q : Value → Shared → Prop} {E : Value → Shared → Prop} (I : Inv X pins σ H s) (ho : s.heap.get? l = some o) (hc : o.cls = .type "tuple") (hd : o.data = .seq vs.toArray n) (h64 : vs.length < 64) (rv : Vals xs vs)
    (turn : ∀ (pins' : List (Addr × Obj)) (x : V) (v : Value) (H : Hp) (s : Shared) (Q : VK), Inv X pins' σ H s → RelV x v → step x H Q → wpAny (model X.prog X.w) X.A.in1.in1 (call (.ref f) [v]) (EP X pins' σ Q) (fun _ _ => False) s)
    (q : keysQ step xs [] H C)
    (fin : ∀ (s' : Shared) (H' : Hp) (ks : List V) (kA : List Value) (pins' : List (Addr × Obj)), Inv X (pins ++ pins') σ H' s' → Vals ks kA → C ks H' → kA.length = vs.length →
      ∃ κ : PyProof.Rows.KeyKind, PySem.W.SortsAt X.prog X.w X.A.in1.in1 s' κ kA ∧
        ∀ (D : Addr) (h' : Heap) (c t' : Nat), H' D = none → Off X pins D → Inv X (pins ++ [(D, seqObj "list" (PySem.W.sortVals κ false kA vs).toArray c)]) σ H' { s' with heap := h', toks := t' } → Q (.ref D) { s' with heap := h', toks := t' }) :
    wpAny (model X.prog X.w) X.A (call (.builtin "sorted") [.ref l] [(Str.ofString "key", .ref f)]) Q E s := by
  refine call_function_entry_kw kind_sorted plain_sorted entry_sorted (ksk_s1 _ _) ?_
  unfold Builtin.«sorted»
  refine wpAny_bind (m := checkCount "sorted" 1 1 _) (wpAny_pure ?_)
  refine wpAny_bind (collect_tup ho hc hd (by rw [sizeLine_eq]; omega) ?_)
  refine wpAny_bind (wpAny_newList ?_ (by rw [sizeLine_eq]; omega))
  have hsz : ((s.heap.push (seqObj "list" #[] 0)).update s.heap.objs.size (Obj.mapSeq (· ++ vs.toArray))).objs.size = s.heap.objs.size + 1 := by
    rw [Heap.size_update, size_push']
  have hoL : (((s.heap.push (seqObj "list" #[] 0)).update s.heap.objs.size (Obj.mapSeq (· ++ vs.toArray))).push (seqObj "list" vs.toArray 0)).get? (s.heap.objs.size + 1) = some (seqObj "list" vs.toArray 0) := by
    rw [← hsz]; exact Heap.get?_push_size _ rfl
  have keep : ∀ b o, s.heap.get? b = some o → (((s.heap.push (seqObj "list" #[] 0)).update s.heap.objs.size (Obj.mapSeq (· ++ vs.toArray))).push (seqObj "list" vs.toArray 0)).get? b = some o := fun b o q => by
    have hlt : b < s.heap.objs.size := Heap.lt_size q
    rw [Heap.get?_push_ne _ _ _ (by rw [hsz]; exact Nat.ne_of_lt (Nat.lt_succ_of_lt hlt)), Heap.get?_update_ne _ _ _ _ (Nat.ne_of_lt hlt), Heap.get?_push_ne _ _ _ (Nat.ne_of_lt hlt)]
    exact q
  have Od : Off X pins (s.heap.objs.size + 1) := Off.of I (Nat.le_succ _)
  have hn : H (s.heap.objs.size + 1) = none := I.hok.fresh (Nat.le_succ _)
  have J := I.kept (t' := s.toks) keep
  show wpAny _ _ _ _ _ { s with heap := ((s.heap.push (seqObj "list" #[] 0)).update s.heap.objs.size (Obj.mapSeq (· ++ vs.toArray))).push (seqObj "list" vs.toArray 0) }
  rw [hsz]
  refine wpAny_bind (wpAny_holding (wpAny_call_entry_kw slot_list_sort ⟨_, hoL, rfl⟩ entry_list_sort ?body (ksk_l1 _ _)))
  case body =>
    show wpAny (model X.prog X.w) X.A.in1.in1 (Builtin.«list.sort» ⟨[.ref (s.heap.objs.size + 1)], [(Str.ofString "key", .ref f)]⟩) _ _ _
    rw [ksk_t1]
    refine kq_sort (C := C) (H := H) (pins := pins) (n := 0) (J.pins_of fun p hp => ?_) Od h64 rv turn q fun s' H' ks kA pins' J' rk hC lk hD => ?_
    · rcases List.mem_append.mp hp with hp | hp
      · exact J.pin p (List.mem_append_right _ hp)
      · rw [List.mem_singleton.mp hp]
        exact ⟨hoL, hn, Od.lc, Od.fs, seq_cell⟩
    · obtain ⟨κ, S, done⟩ := fin s' H' ks kA pins' J' rk hC lk
      refine ⟨κ, S, fun h' c t' J2 => ⟨_, rfl, ?_⟩⟩
      exact wpAny_pure ⟨_, rfl, done _ h' c t' hD Od J2⟩
/-- sorted(xs, key=f), xs a list or a tuple, f an own def at g: keys that are alike data -/
def rSortedByT (K : PySem.W.Frag) (g : Addr) (sp : Sp) : List V → List V → Hp → VK → Prop := fun vs zs H Q => ∃ (l : Addr) (xs : List V), vs = [.ref l] ∧ zs = [.ref g] ∧ (SqL K H l xs ∨ SqT K H l xs) ∧ xs.length < 64 ∧
  keysQ (fun x H Q => sp [x] H Q E0) xs [] H fun ks H' => ∃ ds : List PyData, DpAll K H' ks ds ∧ ds.length = xs.length ∧ PySem.W.AllAlike ds ∧ PySem.W.Sortable ds ∧ (∀ d ∈ ds, d.depth ≤ 40) ∧ ∀ p, H' p = none → Q (.ref p) (upd H' p (.lst (byKeys ds xs)))
theorem cr_sortedByT {CX : CXT} {n : Nat} {g : Addr} {sp : Sp} (F : FnR X.prog X.w X.K X.mg X.base CX n g sp) (hr : Room n X.A.in1.in1) (hu : X.A.units + 64 < cLine) (hx : Passes CX (X.wish fun _ _ => False) E0) : CallRK X (.builtin "sorted") [Str.ofString "key"] (rSortedByT X.K g sp) := by
  intro pins s σ H vs zs us ws Q I r rz h
  obtain ⟨l, xs, rfl, rfl, hs | hs, h64, q⟩ := h
  · exact cr_sortedBy F hr hu hx pins s σ H _ _ us ws Q I r rz ⟨l, xs, rfl, rfl, hs, h64, q⟩
  obtain rfl := Vals.ref1 r
  obtain ⟨w1, rfl, e1⟩ := vals1 rz
  obtain rfl : w1 = Value.ref g := e1
  obtain ⟨its, rv, ⟨o, ho, hcl, m, hda⟩, hz⟩ := I.tuple hs
  have li : its.length = xs.length := rv.length.symm
  refine kt_sorted (xs := xs) I ho hcl hda (by omega) rv (fun pins' x v H1 s1 Q1 I1 rx q1 => ?_) q fun s' H' ks kA pins' J rk hC lk => ?_
  · refine wpAny_mono (wpAny_call (SlX.run_at (X := X.wish fun _ _ => False) (us := [v]) (ws := [x]) F hr I1.env0.in1.in1 hx (I1.wish _) (.cons rx .nil) q1)) (fun u s2 z => ?_) fun _ _ z => z
    obtain ⟨y, H2, J2, ry, q2⟩ := z
    exact ⟨y, H2, J2.unwish, ry, q2⟩
  · obtain ⟨ds, hd, ld, al, so, dp, qf⟩ := hC
    have er := each_reads J rk hd
    refine ⟨_, PySem.W.SortsAt.data er al so (fun d hm => ?_), fun D h' c t' hD Od J2 => ?_⟩
    · have := dp d hm
      have e : X.A.in1.in1.units ≤ X.A.units + 2 := Nat.le_refl _
      omega
    · have ez : (ds.zip xs).map (·.1) = ds := List.map_fst_zip (by omega)
      have ko : PySem.W.KeyedOut false ((ds.zip xs).map fun b : PyData × V => b.1) its (PySem.W.sortVals (PySem.W.dataKind s'.heap ds) false kA its) := by
        rw [ez]
        exact ⟨s'.heap, kA, al, rfl, er⟩
      have eo := PySem.W.keyedOut_each (fun b : PyData × V => b.1) ko (each_zip ld rv)
      have vo := vals_of_each eo
      refine ⟨.ref D, upd H' D (.lst (byKeys ds xs)), adopt J2 Od ⟨?_, _, c, vo, (J2.pin _ (List.mem_append_right _ (List.mem_append_right _ List.mem_cons_self))).1⟩, rfl, qf D hD⟩
      unfold byKeys
      rw [List.length_map, List.length_mergeSort, List.length_zip, ld, Nat.min_self]
      exact Nat.le_of_lt (Nat.lt_of_lt_of_le h64 (by decide))
end
end VG

set_option maxRecDepth 100000
set_option linter.unusedVariables false
/-! sorted(t) of a tuple of texts; of a list or a tuple. -/
namespace VG
open PySem PySem.Spec PyProof.Rows L2
section
variable {prog : Program} {w : World} {A : Around} {E : Value → Shared → Prop} {s : Shared}
theorem sorted_strsT {l : Addr} {vs : List Value} {ss : List Str} {Q : Value → Shared → Prop} (hl : s.heap.IsTuple l vs.toArray) (hS : StrsAre vs ss) (h64 : vs.length < 64)
    (h : ∀ (out : Array Value) (ss' : List Str), StrsAre out.toList ss' → ss'.Perm ss → sortedS ss' = true → Q (.ref (s.heap.objs.size + 1)) { s with heap := sortedAll s.heap vs out }) :
    wpAny (model prog w) A (call (.builtin "sorted") [.ref l]) Q E s := by
  refine Calls.call_function_entry kind_sorted plain_sorted entry_sorted (args_sorted1 _) ?_
  unfold Builtin.«sorted»
  refine wpAny_bind (m := checkCount "sorted" 1 1 _) (wpAny_pure ?_)
  obtain ⟨o, ho, hc, n, hd⟩ := id hl
  refine wpAny_bind (collect_tup ho hc hd (by rw [sizeLine_eq]; omega) ?_)
  refine wpAny_bind (wpAny_newList ?_ (by rw [sizeLine_eq]; omega))
  have hsz : ((s.heap.push (seqObj "list" #[] 0)).update s.heap.objs.size (Obj.mapSeq (· ++ vs.toArray))).objs.size = s.heap.objs.size + 1 := by
    rw [Heap.size_update, size_push']
  have hoL : (((s.heap.push (seqObj "list" #[] 0)).update s.heap.objs.size (Obj.mapSeq (· ++ vs.toArray))).push (seqObj "list" vs.toArray 0)).get? (s.heap.objs.size + 1) = some (seqObj "list" vs.toArray 0) := by
    rw [← hsz]; exact Heap.get?_push_size _ rfl
  show wpAny _ _ _ _ _ { s with heap := ((s.heap.push (seqObj "list" #[] 0)).update s.heap.objs.size (Obj.mapSeq (· ++ vs.toArray))).push (seqObj "list" vs.toArray 0) }
  rw [hsz]
  refine wpAny_bind (wpAny_holding (wpAny_call_entry slot_list_sort ⟨_, hoL, rfl⟩ entry_list_sort (list_sort_treeK strKind_oneLt hoL hS.keysOf (fun v₁ v₂ rest e => keyKind_strs (by rw [← e]; exact hS)) h64 fun st' a1 a2 => ⟨_, rfl, ?_⟩) (args_list_sort _)))
  obtain ⟨ss', h1, h2, h3⟩ := sorted_out_str hS a1 a2
  exact wpAny_pure ⟨_, rfl, h _ ss' h1 h2 h3⟩
end
/-- sorted of a list or a tuple of texts -/
def rSortedE (K : PySem.W.Frag) : List V → Hp → VK → Prop := fun vs H Q => ∃ (a : Addr) (xs : List Str), vs = [V.ref a] ∧ (SqL K H a (xs.map V.str) ∨ SqT K H a (xs.map V.str)) ∧ xs.length < 64 ∧
  ∀ (ys : List Str) (p : Addr), ys.Perm xs → sortedS ys = true → H p = none → Q (.ref p) (upd H p (.lst (ys.map V.str)))
theorem cr_sortedE {X : Cx} : CallR X (.builtin "sorted") (rSortedE X.K) := by
  intro pins s σ H vs us Q I r h
  obtain ⟨a, xs, rfl, hs | hs, h64, q⟩ := h
  · exact cr_sortedS pins s σ H _ us Q I r ⟨a, xs, rfl, hs, h64, q⟩
  · obtain ⟨its, rv, hl, _⟩ := I.tuple hs
    rw [Vals.ref1 r]
    have hlen0 := rv.length
    rw [List.length_map] at hlen0
    refine sorted_strsT (show s.heap.IsTuple a its.toArray from hl) rv.strs (by rw [← hlen0]; exact h64) fun out ys h1 h2 h3 => ?_
    obtain ⟨ep, he'⟩ := PyProof.Rows.sortedAll_at s.heap its out
    have hlen : (ys.map V.str).length ≤ sizeLine := by rw [List.length_map, h2.length_eq]; exact small64 h64
    exact ⟨.ref _, upd H (s.heap.objs.size + 1) (.lst (ys.map V.str)), I.laid (t' := s.toks) (fun _ _ => PyProof.Rows.sortedAll_old) (Nat.le_succ _) ⟨hlen, out.toList, ep, vals_of_strs h1, he'⟩, rfl, q ys _ h2 h3 (I.hok.fresh (Nat.le_succ _))⟩
end VG

set_option maxRecDepth 100000
set_option linter.unusedVariables false
set_option maxHeartbeats 2000000
namespace Lw
open PySem PySem.Spec PyProof.Rows L2 VG
/-! Script: its fields, how it is made -/
def g1 (a : V) : List (Str × V) := putF "_names" a []
def g2 (a l : V) : List (Str × V) := putF "_layers" l (g1 a)
def g3 (a l x : V) : List (Str × V) := putF "_steps" x (g2 a l)
def g4 (a l x t : V) : List (Str × V) := putF "_tests" t (g3 a l x)
def g5 (a l x t u : V) : List (Str × V) := putF "_puts" u (g4 a l x t)
def g6 (a l x t u b : V) : List (Str × V) := putF "_ends" b (g5 a l x t u)
def g7 (a l x t u b z : V) : List (Str × V) := putF "_text" z (g6 a l x t u b)
theorem lk5 (a l x t u : V) : (g5 a l x t u).lookup ("_names" : Str) = some a ∧ (g5 a l x t u).lookup ("_tests" : Str) = some t ∧ (g5 a l x t u).lookup ("_puts" : Str) = some u ∧ (g5 a l x t u).lookup ("MOST" : Str) = none ∧ (g5 a l x t u).lookup ("TESTS" : Str) = none := by
  refine ⟨?_, ?_, ?_, ?_, ?_⟩
  all_goals unfold g5 g4 g3 g2 g1
  · rw [lookup_putF, if_neg (by decide +kernel), lookup_putF, if_neg (by decide +kernel), lookup_putF, if_neg (by decide +kernel), lookup_putF, if_neg (by decide +kernel), lookup_putF, if_pos rfl]
  · rw [lookup_putF, if_neg (by decide +kernel), lookup_putF, if_pos rfl]
  · rw [lookup_putF, if_pos rfl]
  · rw [lookup_putF, if_neg (by decide +kernel), lookup_putF, if_neg (by decide +kernel), lookup_putF, if_neg (by decide +kernel), lookup_putF, if_neg (by decide +kernel), lookup_putF, if_neg (by decide +kernel)]
    rfl
  · rw [lookup_putF, if_neg (by decide +kernel), lookup_putF, if_neg (by decide +kernel), lookup_putF, if_neg (by decide +kernel), lookup_putF, if_neg (by decide +kernel), lookup_putF, if_neg (by decide +kernel)]
    rfl
theorem lk7 (a l x t u b z : V) : (g7 a l x t u b z).lookup ("_names" : Str) = some a ∧ (g7 a l x t u b z).lookup ("_layers" : Str) = some l ∧ (g7 a l x t u b z).lookup ("_steps" : Str) = some x ∧ (g7 a l x t u b z).lookup ("_tests" : Str) = some t ∧ (g7 a l x t u b z).lookup ("_puts" : Str) = some u ∧ (g7 a l x t u b z).lookup ("_ends" : Str) = some b ∧ (g7 a l x t u b z).lookup ("_text" : Str) = some z := by
  refine ⟨?_, ?_, ?_, ?_, ?_, ?_, ?_⟩
  all_goals unfold g7 g6 g5 g4 g3 g2 g1
  · rw [lookup_putF, if_neg (by decide +kernel), lookup_putF, if_neg (by decide +kernel), lookup_putF, if_neg (by decide +kernel), lookup_putF, if_neg (by decide +kernel), lookup_putF, if_neg (by decide +kernel), lookup_putF, if_neg (by decide +kernel), lookup_putF, if_pos rfl]
  · rw [lookup_putF, if_neg (by decide +kernel), lookup_putF, if_neg (by decide +kernel), lookup_putF, if_neg (by decide +kernel), lookup_putF, if_neg (by decide +kernel), lookup_putF, if_neg (by decide +kernel), lookup_putF, if_pos rfl]
  · rw [lookup_putF, if_neg (by decide +kernel), lookup_putF, if_neg (by decide +kernel), lookup_putF, if_neg (by decide +kernel), lookup_putF, if_neg (by decide +kernel), lookup_putF, if_pos rfl]
  · rw [lookup_putF, if_neg (by decide +kernel), lookup_putF, if_neg (by decide +kernel), lookup_putF, if_neg (by decide +kernel), lookup_putF, if_pos rfl]
  · rw [lookup_putF, if_neg (by decide +kernel), lookup_putF, if_neg (by decide +kernel), lookup_putF, if_pos rfl]
  · rw [lookup_putF, if_neg (by decide +kernel), lookup_putF, if_pos rfl]
  · rw [lookup_putF, if_pos rfl]
def nof7 (m : Str) : Bool := decide (¬ m = "_names") && decide (¬ m = "_layers") && decide (¬ m = "_steps") && decide (¬ m = "_tests") && decide (¬ m = "_puts") && decide (¬ m = "_ends") && decide (¬ m = "_text")
theorem lk7_no (a l x t u b z : V) {m : Str} (e : nof7 m = true) : (g7 a l x t u b z).lookup m = none := by
  simp only [nof7, Bool.and_eq_true, decide_eq_true_eq] at e
  obtain ⟨⟨⟨⟨⟨⟨h1, h2⟩, h3⟩, h4⟩, h5⟩, h6⟩, h7⟩ := e
  unfold g7 g6 g5 g4 g3 g2 g1
  rw [lookup_putF, if_neg h7, lookup_putF, if_neg h6, lookup_putF, if_neg h5, lookup_putF, if_neg h4, lookup_putF, if_neg h3, lookup_putF, if_neg h2, lookup_putF, if_neg h1]
  rfl
structure TxS (K : PySem.W.Frag) (C : Addr) : Prop where
  cl : Cls K C
  n1 : NoAttr K C "_names"
  n2 : NoAttr K C "_layers"
  n3 : NoAttr K C "_steps"
  n4 : NoAttr K C "_tests"
  n5 : NoAttr K C "_puts"
  n6 : NoAttr K C "_ends"
  n7 : NoAttr K C "_text"
  most : ∃ u, Con K C "MOST" (.int 12) u
  tests : ∃ u, Con K C "TESTS" (.int 3) u
section
variable {P : Program} {w : World} {K : PySem.W.Frag} {mg : Str → Option Value} {base : Heap}
theorem FnOk.or {CX : CXT} {k : Nat} {f : Addr} {fd : FuncData} {ps : List Str} {sp sp' : Sp} (F : FnOk P w K mg base CX k f fd ps sp) (G : FnOk P w K mg base CX k f fd ps sp') : FnOk P w K mg base CX k f fd ps (fun vs H Q E => sp vs H Q E ∨ sp' vs H Q E) :=
  ⟨fun vs H Q E h => h.elim (F.len vs H Q E) (G.len vs H Q E), fun A outer s H args us vs Q E hr e0 hb r h => h.elim (F.run A outer s H args us vs Q E hr e0 hb r) (G.run A outer s H args us vs Q E hr e0 hb r)⟩
/-- what a script is made of -/
structure ScIn (K : PySem.W.Frag) (H : Hp) (N : Addr) (x : V) (zs : List Str) (ds : List PyData) (l : Nat) : Prop where
  nm : SqL K H N (tVs zs) ∨ SqT K H N (tVs zs)
  nod : zs.Nodup
  ok : ∀ z ∈ zs, nmB z
  few : zs.length ≤ 3
  lay : l = 1 ∨ l = 2
  st : Dp K H x (.tuple ds)
  std : DsL l 3 ds
  len : ds.length ≤ 16
theorem exs_none {p A : Addr} {H G : Hp} (e : Exs [p] H G) (n : A ≠ p) (h : G A = none) : H A = none := by
  cases z : H A with
  | none => rfl
  | some o => rw [Exs.on e (fun m => n (List.mem_singleton.mp m)) z] at h; cases h
/-- a script's fields; its own lists are new in H0 -/
structure ScF (K : PySem.W.Frag) (H0 G : Hp) (x : V) (zs : List Str) (ds : List PyData) (l : Nat) (fs : List (Str × V)) : Prop where
  ex : ∃ (A B : Addr) (os es ws ys : List Str), fs = g7 (.ref A) (.int (l : Nat)) x (.int (cwD "if" 3 ds)) (.int (cwD "place" 3 ds)) (.ref B) (.str (joined ws)) ∧ H0 A = none ∧ H0 B = none ∧ G A = some (.lst (tVs os)) ∧ os.Perm zs ∧ Srt os ∧ G B = some (.lst (tVs es)) ∧ es.Perm ys ∧ Srt es ∧ nbE 3 os [] 0 ds = .ok ys ∧ LW 16 (SW 2) ds ws
theorem ScIn.same {H H' : Hp} {N : Addr} {x : V} {zs : List Str} {ds : List PyData} {l : Nat} (s : Same H H') (h : ScIn K H N x zs ds l) : ScIn K H' N x zs ds l :=
  ⟨h.nm.imp (fun z => s.seq z) (fun z => Same.tup s z), h.nod, h.ok, h.few, h.lay, Dp.same s _ _ h.st, h.std, h.len⟩
/-- what comes of names and steps of good forms -/
structure ScQ (K : PySem.W.Frag) (CU CD CM CE : Addr) (zs : List Str) (ds : List PyData) (G : (Addr → List (Str × PyData) → Prop)) (R : Prop) : Prop where
  steps : 12 < cntD 3 ds → G CM (manyE "steps" 12)
  tests : cntD 3 ds ≤ 12 → 3 < cwD "if" 3 ds → G CM (manyE "tests" 3)
  puts : cntD 3 ds ≤ 12 → cwD "if" 3 ds ≤ 3 → 3 < cwD "place" 3 ds → G CM (manyE "puts" 3)
  names : cntD 3 ds ≤ 12 → cwD "if" 3 ds ≤ 3 → cwD "place" 3 ds ≤ 3 → ∀ os, os.Perm zs → Srt os → ∀ e, nbE 3 os [] 0 ds = .error e → G (nbC CU CD CM CE e) (nbFl e)
  fine : cntD 3 ds ≤ 12 → cwD "if" 3 ds ≤ 3 → cwD "place" 3 ds ≤ 3 → (∃ os ys, os.Perm zs ∧ Srt os ∧ nbE 3 os [] 0 ds = .ok ys) → R
def spInitS (K : PySem.W.Frag) (C CU CD CM CE : Addr) : Sp := fun vs H Q E => ∃ (p dx N : Addr) (x : V) (zs : List Str) (ds : List PyData) (l : Nat), vs = [.ref p, .ref N, x, .int (l : Nat)] ∧ H p = some (.ins C dx []) ∧ ScIn K (wos [p] H) N x zs ds l ∧
  ScQ K CU CD CM CE zs ds (fun c fl => ∀ (dd : Addr) (H' : Hp), Exs [p] H H' → ErrD K H' dd fl → E (.ref c) (some dd) H')
    (∀ (fs : List (Str × V)) (H' : Hp), H' p = some (.ins C dx fs) → Exs [p] H H' → ScF K H (wos [p] H') x zs ds l fs → Q .non H')
theorem scInitS : FnScope ["self", "names", "steps", "layers"] ["self", "names", "steps", "layers"] (defScope kInit) := ⟨rfl, rfl, rfl, by decide +kernel, rfl, by decide +kernel, by decide +kernel⟩
variable {fN fL fC fW fU fB fT : Addr} {fdN fdL fdC fdW fdU fdB fdT : FuncData}
theorem ok_initSc {f C CU CD CM CE e1 e2 : Addr} {fd : FuncData} {dv : List V} {kw : List (Str × V)} {d1 d2 : List Value} {u : Value} (F : FunD K "__init__" "Script.__init__" (defArgs kInit) (defBody kInit) (defScope kInit) dv kw f fd) (T : TxS K C) (srt : mg "sorted" = none) (tpl : mg "tuple" = none) (mP : mg "MOST_PUTS" = some u) (rP : RelV (.int 3) u)
    (GN : FnOk P w K mg base CX0 3 fN fdN ["names"] (fun vs H Q E => spCheckNs K vs H Q E ∨ spCheckNt K vs H Q E)) (mN : mg "check_names" = some (.ref fN)) (kN : PySem.W.keepIn K (.ref fN) = true) (bN : Binds K fdN ["names"] [])
    (GL : FnOk P w K mg base CX0 3 fL fdL ["layers"] spCheckLs) (mL : mg "check_layers" = some (.ref fL)) (kL : PySem.W.keepIn K (.ref fL) = true) (bL : Binds K fdL ["layers"] [])
    (GC : FnOk P w K mg base CX0 12 fC fdC ["values", "layers", "path"] (spChk K 4)) (mC : mg "check_steps" = some (.ref fC)) (kC : PySem.W.keepIn K (.ref fC) = true) (bC : Binds K fdC ["values", "layers", "path"] d1) (vC : Vals [.ref e1] d1) (nC : ∀ H, SqT K H e1 [])
    (GW : FnOk P w K mg base CX0 5 fW fdW ["steps", "word"] (spCountW K 4)) (mW : mg "count_word" = some (.ref fW)) (kW : PySem.W.keepIn K (.ref fW) = true) (bW : Binds K fdW ["steps", "word"] [])
    (GU : FnOk P w K mg base CX0 5 fU fdU ["steps"] (spCount K 4)) (mU : mg "count_steps" = some (.ref fU)) (kU : PySem.W.keepIn K (.ref fU) = true) (bU : Binds K fdU ["steps"] [])
    (GB : FnOk P w K mg base (L2.CX P w) 15 fB fdB NB4 (spNB K CU CD CM CE 3)) (mB : mg "names_behind" = some (.ref fB)) (kB : PySem.W.keepIn K (.ref fB) = true) (bB : Binds K fdB NB4 d2) (vB : Vals [.ref e2, .int 0] d2) (nB : ∀ H, SqT K H e2 [])
    (GT : FnOk P w K mg base CX0 14 fT fdT ["steps"] (spTextOf K)) (mT : mg "text_of" = some (.ref fT)) (kT : PySem.W.keepIn K (.ref fT) = true) (bT : Binds K fdT ["steps"] [])
    (XM : ErrC P w K mg base "TooMany" ["subject", "most"] CM 4 2) :
    FnOk P w K mg base (L2.CX P w) 18 f fd ["self", "names", "steps", "layers"] (spInitS K C CU CD CM CE) := by
  refine FunD.ok (CX := L2.CX P w) F scInitS (fun vs H Q E h => ?_) (fun cdv A outer s H vs Q E hr h => ?_)
  · obtain ⟨p, dx, N, x, zs, ds, l, rfl, _⟩ := h
    rfl
  · obtain ⟨p, dx, N, x, zs, ds, l, rfl, hp, I, q⟩ := h
    have nd := scInitS.nd
    have hr3 : Room 3 _ := hr.mono (by decide)
    have hr5 : Room 5 _ := hr.mono (by decide)
    have hr12 : Room 12 _ := hr.mono (by decide)
    have hr14 : Room 14 _ := hr.mono (by decide)
    have hr15 : Room 15 _ := hr.mono (by decide)
    obtain ⟨um, hum⟩ := T.most
    obtain ⟨ut, hut⟩ := T.tests
    refine ⟨_, pss_cons (ps_expr (pe_call GN hr3 (by rfl) mN kN bN .nil pass0 (pa_cons (pv 1) pa_nil)))
      (pss_cons (ps_expr (pe_call GL hr3 (by rfl) mL kL bL .nil pass0 (pa_cons (pv 3) pa_nil)))
      (pss_cons (ps_expr (pe_call GC hr12 (by rfl) mC kC bC vC pass0 (pa_cons (pv 2) (pa_cons (pv 3) pa_nil))))
      (pss_cons (ps_fld (pv 0) (pe_callB cr_sortedE (by rfl) srt (by decide +kernel) (pa_cons (pv 1) pa_nil)) rfl)
      (pss_cons (ps_fld (pv 0) (pv 3) rfl)
      (pss_cons (ps_fld (pv 0) (pe_callTy call_tupleK (by rfl) tpl (by decide +kernel) (pa_cons (pv 2) pa_nil)) rfl)
      (pss_cons (ps_fld (pv 0) (pe_call GW hr5 (by rfl) mW kW bW .nil pass0 (pa_cons (pv 2) (pa_cons pe_str pa_nil))) rfl)
      (pss_cons (ps_fld (pv 0) (pe_call GW hr5 (by rfl) mW kW bW .nil pass0 (pa_cons (pv 2) (pa_cons pe_str pa_nil))) rfl)
      (pss_cons (ps_if (pt_cmpR op_gt (pe_call GU hr5 (by rfl) mU kU bU .nil pass0 (pa_cons (pv 2) pa_nil)) (pe_con (pv 0) rfl) (nomark _)) (pss_one (ps_err XM rfl (takes_of rfl rfl rfl rfl) hr5 (by rfl) (pa_cons pe_str (pa_cons (pe_con (pv 0) rfl) pa_nil)))) pss_nil)
      (pss_cons (ps_if (pt_cmpR op_gt (pe_fld (pv 0) rfl) (pe_con (pv 0) rfl) (nomark _)) (pss_one (ps_err XM rfl (takes_of rfl rfl rfl rfl) hr5 (by rfl) (pa_cons pe_str (pa_cons (pe_con (pv 0) rfl) pa_nil)))) pss_nil)
      (pss_cons (ps_if (pt_cmpR op_gt (pe_fld (pv 0) rfl) (pe_glob (v := .int 3) (by rfl) mP rP) (nomark _)) (pss_one (ps_err XM rfl (takes_of rfl rfl rfl rfl) hr5 (by rfl) (pa_cons pe_str (pa_cons (pe_glob (v := .int 3) (by rfl) mP rP) pa_nil)))) pss_nil)
      (pss_cons (ps_fld (pv 0) (pe_callB cr_sortedS (by rfl) srt (by decide +kernel) (pa_cons (pe_call (E := E) GB hr15 (by rfl) mB kB bB vB fn_passes (pa_cons (pe_fld (pv 0) rfl) (pa_cons (pv 2) pa_nil))) pa_nil)) rfl)
      (pss_one (ps_fld (pv 0) (pe_call GT hr14 (by rfl) mT kT bT .nil pass0 (pa_cons (pv 2) pa_nil)) rfl))))))))))))), ?_⟩
    have ok : ∀ z ∈ zs, nameB z = true ∧ z.length ≤ 1000 := fun z hz => ⟨(I.ok z hz).1, Nat.le_trans (I.ok z hz).2 (by decide)⟩
    have up : ∀ {G : Hp}, Exs [p] H G → ScIn K G N x zs ds l := fun e => I.same (Same.trans e wos_sub)
    have cn : ∀ {R : VK}, (∀ H', Same H H' → R .non H') → (spCheckNs K [.ref N] H R E0 ∨ spCheckNt K [.ref N] H R E0) := fun {R} r => by
      have I0 := up (Exs.of (Same.refl H))
      rcases I0.nm with h | h
      · exact .inl ⟨N, zs, rfl, h, I.nod, ok, I.few, r⟩
      · exact .inr ⟨N, zs, rfl, h, I.nod, ok, I.few, r⟩
    refine ⟨_, rfl, cn fun G1 s1 => ?_⟩
    have hp1 := s1 _ _ hp
    have x1 : Exs [p] H G1 := Exs.of s1
    refine ⟨_, rfl, l, rfl, I.lay, ?_⟩
    refine ⟨_, rfl, _, rfl, x, ds, l, e1, [], rfl, I.lay, (up x1).st, I.std, by have := I.len; omega, nC _, by decide, fun G2 s2 => ?_⟩
    have hp2 := s2 _ _ hp1
    have x2 := x1.trans (Exs.of s2)
    obtain ⟨T0, xs, rfl, _, _⟩ := dp_tup I.st
    -- the names
    refine ⟨_, rfl, N, zs, rfl, (up x2).nm, by have := I.few; omega, fun os A pm so hA => ⟨_, rfl, p, C, dx, _, rfl, same_upd hA _ _ hp2, T.cl, T.n1, by show 0 < 1000; decide, ?_⟩⟩
    have nA : A ≠ p := ne_of_none hp2 hA |>.symm
    have nok : ∀ z ∈ os, nmB z := fun z hz => I.ok z (pm.mem_iff.mp hz)
    have few : os.length ≤ 3 := by rw [pm.length_eq]; exact I.few
    have pin : p ∈ [p] := List.mem_singleton_self p
    have hp3 : upd (upd G2 A (.lst (os.map V.str))) p (.ins C dx (putF "_names" (.ref A) [])) p = some (.ins C dx (g1 (.ref A))) := upd_same
    have x3 : Exs [p] H (upd (upd G2 A (.lst (os.map V.str))) p (.ins C dx (putF "_names" (.ref A) []))) := (x2.trans (Exs.of (same_upd hA))).trans (Exs.upd pin)
    have hA3 : upd (upd G2 A (.lst (os.map V.str))) p (.ins C dx (putF "_names" (.ref A) [])) A = some (.lst (tVs os)) := by rw [upd_ne nA, upd_same]
    generalize upd (upd G2 A (.lst (os.map V.str))) p (.ins C dx (putF "_names" (.ref A) [])) = G3 at hp3 x3 hA3 ⊢
    -- layers
    refine ⟨_, rfl, _, rfl, p, C, dx, _, rfl, hp3, T.cl, T.n2, by show 1 < 1000; decide, ?_⟩
    have hp4 : upd G3 p (.ins C dx (putF "_layers" (.int (l : Nat)) (g1 (.ref A)))) p = some (.ins C dx (g2 (.ref A) (.int (l : Nat)))) := upd_same
    have x4 : Exs [p] H (upd G3 p (.ins C dx (putF "_layers" (.int (l : Nat)) (g1 (.ref A))))) := x3.trans (Exs.upd pin)
    have hA4 : upd G3 p (.ins C dx (putF "_layers" (.int (l : Nat)) (g1 (.ref A)))) A = some (.lst (tVs os)) := by rw [upd_ne nA]; exact hA3
    generalize upd G3 p (.ins C dx (putF "_layers" (.int (l : Nat)) (g1 (.ref A)))) = G4 at hp4 x4 hA4 ⊢
    -- the steps
    obtain ⟨T1, xs1, e1', hT1, _⟩ := dp_tup (up x4).st
    cases e1'
    refine ⟨_, rfl, T0, xs1, rfl, .inr ⟨hT1, _, rfl, p, C, dx, _, rfl, hp4, T.cl, T.n3, by show 2 < 1000; decide, ?_⟩⟩
    have hp5 : upd G4 p (.ins C dx (putF "_steps" (.ref T0) (g2 (.ref A) (.int (l : Nat))))) p = some (.ins C dx (g3 (.ref A) (.int (l : Nat)) (.ref T0))) := upd_same
    have x5 : Exs [p] H (upd G4 p (.ins C dx (putF "_steps" (.ref T0) (g2 (.ref A) (.int (l : Nat)))))) := x4.trans (Exs.upd pin)
    have hA5 : upd G4 p (.ins C dx (putF "_steps" (.ref T0) (g2 (.ref A) (.int (l : Nat))))) A = some (.lst (tVs os)) := by rw [upd_ne nA]; exact hA4
    generalize upd G4 p (.ins C dx (putF "_steps" (.ref T0) (g2 (.ref A) (.int (l : Nat))))) = G5 at hp5 x5 hA5 ⊢
    -- tests
    have l10 : ds.length ≤ 30 := by have := I.len; omega
    have sd : StDs 3 ds := dsl_std I.std
    obtain ⟨ws, hws⟩ := stds_w (n := 2) I.len sd
    refine ⟨_, rfl, .ref T0, ds, "if", rfl, (up x5).st, sd, l10, fun G6 s6 => ⟨_, rfl, p, C, dx, _, rfl, s6 _ _ hp5, T.cl, T.n4, by show 3 < 1000; decide, ?_⟩⟩
    have hp6 : upd G6 p (.ins C dx (putF "_tests" (.int (cwD "if" 3 ds)) (g3 (.ref A) (.int (l : Nat)) (.ref T0)))) p = some (.ins C dx (g4 (.ref A) (.int (l : Nat)) (.ref T0) (.int (cwD "if" 3 ds)))) := upd_same
    have x6 : Exs [p] H (upd G6 p (.ins C dx (putF "_tests" (.int (cwD "if" 3 ds)) (g3 (.ref A) (.int (l : Nat)) (.ref T0))))) := (x5.trans (Exs.of s6)).trans (Exs.upd pin)
    have hA6 : upd G6 p (.ins C dx (putF "_tests" (.int (cwD "if" 3 ds)) (g3 (.ref A) (.int (l : Nat)) (.ref T0)))) A = some (.lst (tVs os)) := by rw [upd_ne nA]; exact s6 _ _ hA5
    generalize upd G6 p (.ins C dx (putF "_tests" (.int (cwD "if" 3 ds)) (g3 (.ref A) (.int (l : Nat)) (.ref T0)))) = G7 at hp6 x6 hA6 ⊢
    -- puts
    refine ⟨_, rfl, .ref T0, ds, "place", rfl, (up x6).st, sd, l10, fun G8 s8 => ⟨_, rfl, p, C, dx, _, rfl, s8 _ _ hp6, T.cl, T.n5, by show 4 < 1000; decide, ?_⟩⟩
    have hp7 : upd G8 p (.ins C dx (putF "_puts" (.int (cwD "place" 3 ds)) (g4 (.ref A) (.int (l : Nat)) (.ref T0) (.int (cwD "if" 3 ds))))) p = some (.ins C dx (g5 (.ref A) (.int (l : Nat)) (.ref T0) (.int (cwD "if" 3 ds)) (.int (cwD "place" 3 ds)))) := upd_same
    have x7 : Exs [p] H (upd G8 p (.ins C dx (putF "_puts" (.int (cwD "place" 3 ds)) (g4 (.ref A) (.int (l : Nat)) (.ref T0) (.int (cwD "if" 3 ds)))))) := (x6.trans (Exs.of s8)).trans (Exs.upd pin)
    have hA7 : upd G8 p (.ins C dx (putF "_puts" (.int (cwD "place" 3 ds)) (g4 (.ref A) (.int (l : Nat)) (.ref T0) (.int (cwD "if" 3 ds))))) A = some (.lst (tVs os)) := by rw [upd_ne nA]; exact s8 _ _ hA6
    generalize upd G8 p (.ins C dx (putF "_puts" (.int (cwD "place" 3 ds)) (g4 (.ref A) (.int (l : Nat)) (.ref T0) (.int (cwD "if" 3 ds))))) = G9 at hp7 x7 hA7 ⊢
    -- not too many
    obtain ⟨lkA, lkT, lkP, lkM, lkN⟩ := lk5 (.ref A) (.int (l : Nat)) (.ref T0) (.int (cwD "if" 3 ds)) (.int (cwD "place" 3 ds))
    refine ⟨_, rfl, .ref T0, ds, rfl, (up x7).st, sd, l10, fun Ga sa => ⟨_, rfl, p, C, dx, _, _, um, rfl, sa _ _ hp7, T.cl, hum, lkM, _, _, rfl, rfl, _, rfl, ?_⟩⟩
    have hpa := sa _ _ hp7
    have xa := x7.trans (Exs.of sa)
    have hAa := sa _ _ hA7
    have xt : ∀ {G : Hp} {dd : Addr} {H' : Hp}, Exs [p] H G → Same G H' → Exs [p] H H' := fun e s => e.trans (Exs.of s)
    by_cases c1 : 12 < cntD 3 ds
    · rw [decide_eq_true c1]
      exact iteT ⟨_, rfl, p, C, dx, _, _, um, rfl, hpa, T.cl, hum, lkM, mk_err (ds := [.str "steps", .int 12]) rfl rfl (by decide) (.cons (.str _) (.cons (.int _) .nil)) (fit_two _ _) fun dd H' s2 er => q.steps c1 dd H' (xa.trans (Exs.of s2)) er⟩
    have c1' : cntD 3 ds ≤ 12 := Int.not_lt.mp c1
    rw [decide_eq_false c1]
    refine iteF ⟨_, rfl, p, C, dx, _, _, rfl, hpa, T.cl, T.n4, lkT, _, rfl, p, C, dx, _, _, ut, rfl, hpa, T.cl, hut, lkN, _, _, rfl, rfl, _, rfl, ?_⟩
    by_cases c2 : 3 < cwD "if" 3 ds
    · rw [decide_eq_true c2]
      exact iteT ⟨_, rfl, p, C, dx, _, _, ut, rfl, hpa, T.cl, hut, lkN, mk_err (ds := [.str "tests", .int 3]) rfl rfl (by decide) (.cons (.str _) (.cons (.int _) .nil)) (fit_two _ _) fun dd H' s2 er => q.tests c1' c2 dd H' (xa.trans (Exs.of s2)) er⟩
    have c2' := Int.not_lt.mp c2
    rw [decide_eq_false c2]
    refine iteF ⟨_, rfl, p, C, dx, _, _, rfl, hpa, T.cl, T.n5, lkP, _, _, rfl, rfl, _, rfl, ?_⟩
    by_cases c3 : 3 < cwD "place" 3 ds
    · rw [decide_eq_true c3]
      exact iteT (mk_err (ds := [.str "puts", .int 3]) rfl rfl (by decide) (.cons (.str _) (.cons (.int _) .nil)) (fit_two _ _) fun dd H' s2 er => q.puts c1' c2' c3 dd H' (xa.trans (Exs.of s2)) er)
    have c3' := Int.not_lt.mp c3
    rw [decide_eq_false c3]
    -- the ends
    have gos : Gz os := ⟨nok, by omega⟩
    have srto := srt_of so
    refine iteF ⟨_, rfl, p, C, dx, _, _, rfl, hpa, T.cl, T.n1, lkA, _, rfl, A, e2, .ref T0, os, ds, l, [], 0, rfl, SqL.of hAa, gos, (up xa).st, I.std, l10, nB _, by decide, by decide, by decide, fun ys hys N' Gb sb hN' => ?_, fun e he dd H' s2 er => q.names c1' c2' c3' os pm srto e he dd H' (xa.trans (Exs.of s2)) er⟩
    have gys := nb_gz (l := l) I.std gos hys
    have le := gys.few
    refine ⟨N', ys, rfl, hN', by omega, fun es B pm2 so2 hB => ⟨_, rfl, p, C, dx, _, rfl, same_upd hB _ _ (sb _ _ hpa), T.cl, T.n6, by show 5 < 1000; decide, ?_⟩⟩
    have hpb := sb _ _ hpa
    have nB' : B ≠ p := ne_of_none hpb hB |>.symm
    have hp8 : upd (upd Gb B (.lst (es.map V.str))) p (.ins C dx (putF "_ends" (.ref B) (g5 (.ref A) (.int (l : Nat)) (.ref T0) (.int (cwD "if" 3 ds)) (.int (cwD "place" 3 ds))))) p = some (.ins C dx (putF "_ends" (.ref B) (g5 (.ref A) (.int (l : Nat)) (.ref T0) (.int (cwD "if" 3 ds)) (.int (cwD "place" 3 ds))))) := upd_same
    have x8 : Exs [p] H (upd (upd Gb B (.lst (es.map V.str))) p (.ins C dx (putF "_ends" (.ref B) (g5 (.ref A) (.int (l : Nat)) (.ref T0) (.int (cwD "if" 3 ds)) (.int (cwD "place" 3 ds)))))) := ((xa.trans (Exs.of sb)).trans (Exs.of (same_upd hB))).trans (Exs.upd pin)
    have hA8 : upd (upd Gb B (.lst (es.map V.str))) p (.ins C dx (putF "_ends" (.ref B) (g5 (.ref A) (.int (l : Nat)) (.ref T0) (.int (cwD "if" 3 ds)) (.int (cwD "place" 3 ds))))) A = some (.lst (tVs os)) := by rw [upd_ne nA]; exact same_upd hB _ _ (sb _ _ hAa)
    have hB8 : upd (upd Gb B (.lst (es.map V.str))) p (.ins C dx (putF "_ends" (.ref B) (g5 (.ref A) (.int (l : Nat)) (.ref T0) (.int (cwD "if" 3 ds)) (.int (cwD "place" 3 ds))))) B = some (.lst (tVs es)) := by rw [upd_ne nB', upd_same]
    generalize upd (upd Gb B (.lst (es.map V.str))) p (.ins C dx (putF "_ends" (.ref B) (g5 (.ref A) (.int (l : Nat)) (.ref T0) (.int (cwD "if" 3 ds)) (.int (cwD "place" 3 ds))))) = Gc at hp8 x8 hA8 hB8 ⊢
    -- the text
    refine ⟨_, rfl, .ref T0, ds, ws, rfl, (up x8).st, hws, fun Gd sd => ⟨_, rfl, p, C, dx, _, rfl, sd _ _ hp8, T.cl, T.n7, by show 6 < 1000; decide, ?_⟩⟩
    have x9 : Exs [p] H (upd Gd p (.ins C dx (g7 (.ref A) (.int (l : Nat)) (.ref T0) (.int (cwD "if" 3 ds)) (.int (cwD "place" 3 ds)) (.ref B) (.str (joined ws))))) := (x8.trans (Exs.of sd)).trans (Exs.upd pin)
    have hA0 : H A = none := exs_none x2 nA hA
    have hB0 : H B = none := exs_none (xa.trans (Exs.of sb)) nB' hB
    refine q.fine c1' c2' c3' ⟨os, ys, pm, srto, hys⟩ (g7 (.ref A) (.int (l : Nat)) (.ref T0) (.int (cwD "if" 3 ds)) (.int (cwD "place" 3 ds)) (.ref B) (.str (joined ws))) _ upd_same x9 ⟨A, B, os, es, ws, ys, rfl, hA0, hB0, ?_, pm, srto, ?_, pm2, srt_of so2, hys, hws⟩
    · rw [wos_upd pin, wos_out (fun m => nA (List.mem_singleton.mp m))]
      exact sd _ _ hA8
    · rw [wos_upd pin, wos_out (fun m => nB' (List.mem_singleton.mp m))]
      exact sd _ _ hB8
end
end Lw

set_option maxRecDepth 100000
set_option linter.unusedVariables false
set_option maxHeartbeats 2000000
namespace Lw
open PySem PySem.Spec PyProof.Rows L2 VG
structure ScAt (K : PySem.W.Frag) (C : Addr) (G : Hp) (S : Addr) (os es : List Str) (ds : List PyData) (tx : Str) (l : Nat) (t u : Int) : Prop where
  ex : ∃ (dx A B : Addr) (x : V), G S = some (.ins C dx (g7 (.ref A) (.int (l : Nat)) x (.int t) (.int u) (.ref B) (.str tx))) ∧ G A = some (.lst (tVs os)) ∧ G B = some (.lst (tVs es)) ∧ Dp K G x (.tuple ds)
theorem ScAt.same {K : PySem.W.Frag} {C S : Addr} {G G' : Hp} {os es : List Str} {ds : List PyData} {tx : Str} {l : Nat} {t u : Int} (s : Same G G') (h : ScAt K C G S os es ds tx l t u) : ScAt K C G' S os es ds tx l t u := by
  obtain ⟨dx, A, B, x, h1, h2, h3, h4⟩ := h.ex
  exact ⟨dx, A, B, x, s _ _ h1, s _ _ h2, s _ _ h3, Dp.same s _ _ h4⟩
section
variable {P : Program} {w : World} {K : PySem.W.Frag} {mg : Str → Option Value} {base : Heap} {C : Addr}
def spFldS (K : PySem.W.Frag) (C : Addr) (r : List Str → List Str → List PyData → Str → Nat → Int → Int → V) : Sp := fun vs H Q _ => ∃ (S : Addr) (os es : List Str) (ds : List PyData) (tx : Str) (l : Nat) (t u : Int), vs = [.ref S] ∧ ScAt K C H S os es ds tx l t u ∧ Q (r os es ds tx l t u) H
theorem sc1 {st : Stmt} (h : FnScope ["self"] ["self"] (defScope st)) : FnScope ["self"] ["self"] (defScope st) := h
theorem scKt : FnScope ["self"] ["self"] (defScope kTests) := ⟨rfl, rfl, rfl, by decide +kernel, rfl, by decide +kernel, by decide +kernel⟩
theorem ok_kTests {f : Addr} {fd : FuncData} (F : Fun K "tests" "Script.tests" kTests f fd) (T : TxS K C) : FnOk P w K mg base CX0 1 f fd ["self"] (spFldS K C fun _ _ _ _ _ t _ => .int t) := by
  refine F.ok scKt (fun vs H Q E h => ?_) (fun cdv A outer s H vs Q E hr h => ?_)
  · obtain ⟨S, os, es, ds, tx, l, t, u, rfl, _⟩ := h
    rfl
  · obtain ⟨S, os, es, ds, tx, l, t, u, rfl, h, q⟩ := h
    obtain ⟨dx, A, B, x, h1, h2, h3, h4⟩ := h.ex
    obtain ⟨k1, k2, k3, k4, k5, k6, k7⟩ := lk7 (.ref A) (.int (l : Nat)) x (.int t) (.int u) (.ref B) (.str tx)
    exact ⟨_, pss_one (ps_ret (pe_fld (pv 0) rfl)), _, rfl, S, C, dx, _, _, rfl, h1, T.cl, T.n4, k4, q⟩
theorem scKp : FnScope ["self"] ["self"] (defScope kPuts) := ⟨rfl, rfl, rfl, by decide +kernel, rfl, by decide +kernel, by decide +kernel⟩
theorem ok_kPuts {f : Addr} {fd : FuncData} (F : Fun K "puts" "Script.puts" kPuts f fd) (T : TxS K C) : FnOk P w K mg base CX0 1 f fd ["self"] (spFldS K C fun _ _ _ _ _ _ u => .int u) := by
  refine F.ok scKp (fun vs H Q E h => ?_) (fun cdv A outer s H vs Q E hr h => ?_)
  · obtain ⟨S, os, es, ds, tx, l, t, u, rfl, _⟩ := h
    rfl
  · obtain ⟨S, os, es, ds, tx, l, t, u, rfl, h, q⟩ := h
    obtain ⟨dx, A, B, x, h1, h2, h3, h4⟩ := h.ex
    obtain ⟨k1, k2, k3, k4, k5, k6, k7⟩ := lk7 (.ref A) (.int (l : Nat)) x (.int t) (.int u) (.ref B) (.str tx)
    exact ⟨_, pss_one (ps_ret (pe_fld (pv 0) rfl)), _, rfl, S, C, dx, _, _, rfl, h1, T.cl, T.n5, k5, q⟩
theorem scKc : FnScope ["self"] ["self"] (defScope kLen) := ⟨rfl, rfl, rfl, by decide +kernel, rfl, by decide +kernel, by decide +kernel⟩
theorem ok_kLen {f : Addr} {fd : FuncData} (F : Fun K "__len__" "Script.__len__" kLen f fd) (T : TxS K C) (ln : mg "len" = none) : FnOk P w K mg base CX0 1 f fd ["self"] (spFldS K C fun _ _ ds _ _ _ _ => .int (ds.length : Nat)) := by
  refine F.ok scKc (fun vs H Q E h => ?_) (fun cdv A outer s H vs Q E hr h => ?_)
  · obtain ⟨S, os, es, ds, tx, l, t, u, rfl, _⟩ := h
    rfl
  · obtain ⟨S, os, es, ds, tx, l, t, u, rfl, h, q⟩ := h
    obtain ⟨dx, A, B, x, h1, h2, h3, h4⟩ := h.ex
    obtain ⟨k1, k2, k3, k4, k5, k6, k7⟩ := lk7 (.ref A) (.int (l : Nat)) x (.int t) (.int u) (.ref B) (.str tx)
    obtain ⟨T0, xs, rfl, hT, hd⟩ := dp_tup h4
    refine ⟨_, pss_one (ps_ret (pe_callB call_len_seq (by rfl) ln PySem.boot_len (pa_cons (pe_fld (pv 0) rfl) pa_nil))), _, rfl, S, C, dx, _, _, rfl, h1, T.cl, T.n3, k3, T0, xs, rfl, .inr hT, ?_⟩
    rw [DpAll.len hd]
    exact q
end
end Lw

set_option maxRecDepth 100000
set_option linter.unusedVariables false
set_option maxHeartbeats 2000000
namespace Lw
open PySem PySem.Spec PyProof.Rows L2 VG
/-! scripts just made, or what is raised -/
abbrev st0 (H : Hp) (C x dx : Addr) : Hp := upd (upd H dx (.own x)) x (.ins C dx [])
theorem st0_same {H : Hp} {C x dx : Addr} (hx : H x = none) (hdx : H dx = none) : Same H (wos [x] (st0 H C x dx)) := fun b o h => by
  have n1 := ne_of_none h hx
  rw [wos_out (fun m => n1 (List.mem_singleton.mp m))]
  show upd (upd H dx (.own x)) x (.ins C dx []) b = some o
  rw [upd_ne n1, upd_ne (ne_of_none h hdx)]
  exact h
theorem ScQ.imp {K : PySem.W.Frag} {CU CD CM CE : Addr} {zs : List Str} {ds : List PyData} {G G' : Addr → List (Str × PyData) → Prop} {R R' : Prop} (hg : ∀ c fl, G c fl → G' c fl) (hr : R → R') (h : ScQ K CU CD CM CE zs ds G R) : ScQ K CU CD CM CE zs ds G' R' :=
  ⟨fun a => hg _ _ (h.steps a), fun a b => hg _ _ (h.tests a b), fun a b c => hg _ _ (h.puts a b c), fun a b c os p s e z => hg _ _ (h.names a b c os p s e z), fun a b c z => hr (h.fine a b c z)⟩
/-- a script is made -/
theorem madeSc {K : PySem.W.Frag} {C CU CD CM CE : Addr} {H : Hp} {x dx N : Addr} {y : V} {zs : List Str} {ds : List PyData} {l : Nat} {R : Hp → Prop} {E : XK} (hx : H x = none) (hdx : H dx = none) (I : ScIn K H N y zs ds l)
    (k : ScQ K CU CD CM CE zs ds (fun c fl => ∀ (dd : Addr) (H' : Hp), Same H H' → ErrD K H' dd fl → E (.ref c) (some dd) H') (∀ (os es ws : List Str) (H' : Hp), Same H H' → os.Perm zs → Srt os → ScAt K C H' x os es ds (joined ws) l (cwD "if" 3 ds) (cwD "place" 3 ds) → R H')) :
    spInitS K C CU CD CM CE [.ref x, .ref N, y, .int (l : Nat)] (st0 H C x dx) (fun v H3 => v = .non ∧ R H3) E := by
  have sm0 := st0_same (C := C) hx hdx
  refine ⟨x, dx, N, y, zs, ds, l, rfl, upd_same, I.same sm0, k.imp (fun c fl h dd H' ex er => h dd H' (sm0.trans (Same.trans ex wos_sub)) er) fun h fs H' e ex F => ⟨rfl, ?_⟩⟩
  have sm : Same H H' := sm0.trans (Same.trans ex wos_sub)
  obtain ⟨A, B, os, es, ws, ys, rfl, a0, b0, h2, h3, h4, h5, h6, h7, h8, h9⟩ := F.ex
  exact h os es ws H' sm h3 h4 ⟨dx, A, B, y, e, wos_sub _ _ h2, wos_sub _ _ h5, Dp.same sm _ _ I.st⟩
/-- what is raised of names and steps of good forms -/
def scR (zs : List Str) (ds : List PyData) : Option (NbE ⊕ (Str × Int)) :=
  if 12 < cntD 3 ds then some (.inr ("steps", 12)) else if 3 < cwD "if" 3 ds then some (.inr ("tests", 3)) else if 3 < cwD "place" 3 ds then some (.inr ("puts", 3)) else match nbE 3 zs [] 0 ds with
    | .error e => some (.inl e)
    | .ok _ => none
def exC (CU CD CM CE : Addr) : NbE ⊕ (Str × Int) → Addr
  | .inl e => nbC CU CD CM CE e
  | .inr _ => CM
def exFl : NbE ⊕ (Str × Int) → List (Str × PyData)
  | .inl e => nbFl e
  | .inr (z, n) => manyE z n
/-- what asking makes of it -/
def exT : NbE ⊕ (Str × Int) → PyData
  | .inl (.unknown z) => .tuple [.str "UnknownName", .str z]
  | .inl (.dup z) => .tuple [.str "DuplicateName", .str z]
  | .inl .many => .tuple [.str "TooMany", .str "names", .int 5]
  | .inl (.ends ps) => .tuple [.str "UnlikeEnds", .tuple (ps.map PyData.int)]
  | .inr (z, n) => .tuple [.str "TooMany", .str z, .int n]
theorem ScQ.of {K : PySem.W.Frag} {CU CD CM CE : Addr} {zs : List Str} {ds : List PyData} {G : Addr → List (Str × PyData) → Prop} {R : Prop} (hz : Srt zs) (h1 : ∀ x, scR zs ds = some x → G (exC CU CD CM CE x) (exFl x)) (h2 : scR zs ds = none → R) : ScQ K CU CD CM CE zs ds G R := by
  unfold scR at h1 h2
  refine ⟨fun a => ?_, fun a b => ?_, fun a b c => ?_, fun a b c os pm so e he => ?_, fun a b c ⟨os, ys, pm, so, he⟩ => ?_⟩
  · rw [if_pos a] at h1
    exact h1 _ rfl
  · rw [if_neg (Int.not_lt.mpr a), if_pos b] at h1
    exact h1 _ rfl
  · rw [if_neg (Int.not_lt.mpr a), if_neg (Int.not_lt.mpr b), if_pos c] at h1
    exact h1 _ rfl
  · have eo := srt_one so hz pm
    subst eo
    rw [if_neg (Int.not_lt.mpr a), if_neg (Int.not_lt.mpr b), if_neg (Int.not_lt.mpr c), he] at h1
    exact h1 _ rfl
  · have eo := srt_one so hz pm
    subst eo
    rw [if_neg (Int.not_lt.mpr a), if_neg (Int.not_lt.mpr b), if_neg (Int.not_lt.mpr c), he] at h2
    exact h2 rfl
end Lw

set_option maxRecDepth 100000
set_option linter.unusedVariables false
set_option maxHeartbeats 2000000
namespace Lw
open PySem PySem.Spec PyProof.Rows L2 VG
/-! steps of good forms -/
theorem okS_lf {l n : Nat} {u : Str} {ks : List Str} {items : List PyData} (hm : (u, ks) ∈ SHL) (hk : Paired KindOk ks items) (h1 : ks.head? = some "layer" → ∃ d, items.head? = some d ∧ layD l d = true) (hr : u = "ride" → l = 2) (hs : u = "same" → ∃ y z : Str, items = [.str y, .str z] ∧ y ≠ z) : OkS l n (.tuple (.str u :: items)) := by
  have hl : LeafL l (.tuple (.str u :: items)) := ⟨u, ks, items, hm, rfl, kindsL_of hk h1 (shl_tail _ hm), hr, hs⟩
  have hD : ∀ n, StD n (.tuple (.str u :: items)) := fun n => by
    cases n with
    | zero => exact ⟨u, ks, items, hm, rfl, hk⟩
    | succ n => exact .inl ⟨u, ks, items, hm, rfl, hk⟩
  obtain ⟨_, n1, n2, _⟩ := shl_words _ hm
  cases n with
  | zero => exact ⟨hD 0, hl⟩
  | succ n =>
    refine ⟨hD _, .inl hl, fun e he => ?_⟩
    rw [inner_leaf n1 n2] at he
    cases he
theorem okS_rep {l n : Nat} {k : Int} {ds : List PyData} (k1 : 1 ≤ k) (k3 : k ≤ 3) (l12 : ds.length ≤ 12) (h : ∀ e ∈ ds, OkS l n e) : OkS l (n + 1) (.tuple [.str "repeat", .int k, .tuple ds]) := by
  refine ⟨.inr (.inr ⟨k, ds, rfl, k1, k3, l12, fun e he => okS_std (h e he)⟩), .inr ⟨"repeat", _, rfl, .inr rfl, ?_⟩, fun e he => ?_⟩
  · rw [show brKs "repeat" = (["times", "steps"] : List Str) from if_neg (by decide +kernel)]
    exact .cons (.times k1 k3) (.cons .steps .nil)
  · rw [inner_rep] at he
    exact h e he
theorem okS_if {l n : Nat} {a1 a2 a3 a4 : PyData} {ds es : List PyData} (h1 : KindOk "layer" a1) (hl : layD l a1 = true) (h2 : KindOk "name" a2) (h3 : KindOk "name" a3) (h4 : KindOk "length" a4) (l1 : ds.length ≤ 12) (l2 : es.length ≤ 12) (hd : ∀ e ∈ ds, OkS l n e) (he : ∀ e ∈ es, OkS l n e) :
    OkS l (n + 1) (.tuple [.str "if", a1, a2, a3, a4, .tuple ds, .tuple es]) := by
  refine ⟨.inr (.inl ⟨[a1, a2, a3, a4], ds, es, .cons h1 (.cons h2 (.cons h3 (.cons h4 .nil))), rfl, ⟨l1, fun e he => okS_std (hd e he)⟩, ⟨l2, fun e h => okS_std (he e h)⟩⟩), .inr ⟨"if", _, rfl, .inl rfl, ?_⟩, fun e h => ?_⟩
  · rw [show brKs "if" = (["layer", "name", "name", "length", "steps", "steps"] : List Str) from if_pos rfl]
    have no : ∀ {k : Str} {d : PyData}, k ≠ "layer" → KindOk k d → KindL l k d := fun n h => .old h fun e => absurd e n
    exact .cons (.old h1 fun _ => hl) (.cons (no (by decide +kernel) h2) (.cons (no (by decide +kernel) h3) (.cons (no (by decide +kernel) h4) (.cons .steps (.cons .steps .nil)))))
  · rw [inner_if] at h
    rcases List.mem_append.mp h with h | h
    · exact hd e h
    · exact he e h
theorem len_int {k : Int} (h0 : 0 ≤ k) (h1 : k ≤ 1000000) : LenD (.int k) := ⟨rfl, h0, h1, show (1 : Int) ≤ 60 by decide⟩
theorem all_rep {α : Type} {P : α → Prop} {x : α} {n : Nat} (h : P x) : ∀ e ∈ List.replicate n x, P e := fun e he => by
  rw [List.eq_of_mem_replicate he]
  exact h
theorem all_one {α : Type} {P : α → Prop} {x : α} (h : P x) : ∀ e ∈ [x], P e := fun e he => by
  rw [List.mem_singleton.mp he]
  exact h
def turnD : PyData := .tuple [.str "turn"]
def repT (k : Int) (ds : List PyData) : PyData := .tuple [.str "repeat", .int k, .tuple ds]
def stepsD (m : Nat) (b : Int) (r : Nat) : List PyData := List.replicate m turnD ++ [repT b (List.replicate r turnD)]
def testD : PyData := .tuple [.str "if", .str "foot", .str "a", .str "zz", .int 1, .tuple [], .tuple []]
def testsD (m : Nat) (b : Int) (r : Nat) : List PyData := List.replicate m testD ++ [repT b (List.replicate r testD)]
def putD (z : Str) : PyData := .tuple [.str "place", .str z, .str "zz", .int 0, .int 0]
def putsD : List PyData := [putD "p", putD "q", putD "r", putD "s"]
def lateP : PyData := .tuple [.str "place", .str "p", .str "a", .int 0, .int 0]
def lateF : PyData := .tuple [.str "forget", .str "p"]
def lateD : List PyData := [lateP, lateF]
def ifAA (ds es : List PyData) : PyData := .tuple [.str "if", .str "foot", .str "a", .str "a", .int 0, .tuple ds, .tuple es]
theorem nm_of {z : Str} (h : nameB z = true ∧ z.length ≤ 5) : nmB z := h
theorem nm_a : nmB "a" := nm_of (by decide +kernel)
theorem nm_zz : nmB "zz" := nm_of (by decide +kernel)
theorem lay_foot : KindOk "layer" (.str "foot") := .layer (.inl rfl)
theorem lay1_foot : layD 1 (.str "foot") = true := by decide +kernel
theorem ok_turn {n : Nat} : OkS 1 n turnD := okS_lf (u := "turn") (ks := []) (by decide +kernel) .nil (fun e => by cases e) (fun e => absurd e (by decide +kernel)) (fun e => absurd e (by decide +kernel))
theorem ok_test {n : Nat} : OkS 1 (n + 1) testD := okS_if lay_foot lay1_foot (.name nm_a) (.name nm_zz) (.length (len_int (by decide) (by decide))) (by decide) (by decide) all_nil all_nil
theorem ok_place {n : Nat} {z y : Str} (hz : nmB z) (hy : nmB y) : OkS 1 n (.tuple [.str "place", .str z, .str y, .int 0, .int 0]) := okS_lf (u := "place") (ks := ["new", "name", "length", "length"]) (by decide +kernel) (.cons (.new hz) (.cons (.name hy) (.cons (.length (len_int (by decide) (by decide))) (.cons (.length (len_int (by decide) (by decide))) .nil)))) (fun e => absurd e (by decide +kernel)) (fun e => absurd e (by decide +kernel)) (fun e => absurd e (by decide +kernel))
theorem ok_forget {n : Nat} {z : Str} (hz : nmB z) : OkS 1 n (.tuple [.str "forget", .str z]) := okS_lf (u := "forget") (ks := ["name"]) (by decide +kernel) (.cons (.name hz) .nil) (fun e => absurd e (by decide +kernel)) (fun e => absurd e (by decide +kernel)) (fun e => absurd e (by decide +kernel))
theorem steps_ok {m r : Nat} {b : Int} (b1 : 1 ≤ b) (b3 : b ≤ 3) (hr : r ≤ 3) : DsL 1 3 (stepsD m b r) := fun d hd => by
  rcases List.mem_append.mp hd with hd | hd
  · exact all_rep ok_turn d hd
  · exact all_one (okS_rep b1 b3 (by rw [List.length_replicate]; omega) (all_rep ok_turn)) d hd
theorem tests_ok {m r : Nat} {b : Int} (b1 : 1 ≤ b) (b3 : b ≤ 3) (hr : r ≤ 3) : DsL 1 3 (testsD m b r) := fun d hd => by
  rcases List.mem_append.mp hd with hd | hd
  · exact all_rep (ok_test (n := 1)) d hd
  · exact all_one (okS_rep b1 b3 (by rw [List.length_replicate]; omega) (all_rep (ok_test (n := 0)))) d hd
theorem put_ok {n : Nat} : ∀ d ∈ putsD, OkS 1 n d := fun d hd => by
  simp only [putsD, List.mem_cons, List.not_mem_nil, or_false] at hd
  rcases hd with rfl | rfl | rfl | rfl <;> exact ok_place (nm_of (by decide +kernel)) nm_zz
theorem late_ok {n : Nat} : ∀ d ∈ lateD, OkS 1 n d := fun d hd => by
  simp only [lateD, List.mem_cons, List.not_mem_nil, or_false] at hd
  rcases hd with rfl | rfl
  · exact ok_place (nm_of (by decide +kernel)) nm_a
  · exact ok_forget (nm_of (by decide +kernel))
theorem ifAA_ok {n : Nat} {ds es : List PyData} (l1 : ds.length ≤ 12) (l2 : es.length ≤ 12) (hd : ∀ e ∈ ds, OkS 1 n e) (he : ∀ e ∈ es, OkS 1 n e) : OkS 1 (n + 1) (ifAA ds es) := okS_if lay_foot lay1_foot (.name nm_a) (.name nm_a) (.length (len_int (by decide) (by decide))) l1 l2 hd he
/-! what comes of them -/
theorem steps_sc0 : ∀ m : Fin 14, ∀ b : Fin 3, ∀ r : Fin 4, scR ["a"] (stepsD m.val ((b.val + 1 : Nat) : Int) r.val) = if m.val + 1 + (b.val + 1) * r.val ≤ 12 then none else some (.inr ("steps", 12)) := by decide +kernel
theorem tests_sc0 : ∀ m : Fin 5, ∀ b : Fin 3, ∀ r : Fin 3, scR ["a"] (testsD m.val ((b.val + 1 : Nat) : Int) r.val) = if m.val + (b.val + 1) * r.val + 1 > 12 then some (.inr ("steps", 12)) else if m.val + (b.val + 1) * r.val > 3 then some (.inr ("tests", 3)) else if m.val + (b.val + 1) * r.val > 0 then some (.inl (.unknown "zz")) else none := by decide +kernel
theorem steps_sc {m r : Nat} {b : Nat} (hm : m < 14) (b1 : 1 ≤ b) (b3 : b ≤ 3) (hr : r ≤ 3) : scR ["a"] (stepsD m (b : Int) r) = if m + 1 + b * r ≤ 12 then none else some (.inr ("steps", 12)) := by
  have h := steps_sc0 ⟨m, hm⟩ ⟨b - 1, by omega⟩ ⟨r, by omega⟩
  simp only [show b - 1 + 1 = b by omega] at h
  exact h
theorem tests_sc {m r : Nat} {b : Nat} (hm : m < 5) (b1 : 1 ≤ b) (b3 : b ≤ 3) (hr : r ≤ 2) : scR ["a"] (testsD m (b : Int) r) = if m + b * r + 1 > 12 then some (.inr ("steps", 12)) else if m + b * r > 3 then some (.inr ("tests", 3)) else if m + b * r > 0 then some (.inl (.unknown "zz")) else none := by
  have h := tests_sc0 ⟨m, hm⟩ ⟨b - 1, by omega⟩ ⟨r, by omega⟩
  simp only [show b - 1 + 1 = b by omega] at h
  exact h
theorem late_sc : scR ["a"] putsD = some (.inr ("puts", 3)) ∧ scR ["a"] (putsD.take 3) = some (.inl (.unknown "zz")) ∧ scR ["a"] [repT 3 lateD] = none ∧ scR ["a"] [repT 3 lateD, lateP] = some (.inr ("puts", 3)) ∧ scR ["a"] [ifAA (putsD.take 2) (putsD.drop 2)] = some (.inr ("puts", 3)) ∧ scR ["a"] [repT 3 [ifAA [turnD] [turnD]]] = none := by decide +kernel
theorem late_cw : cwD "place" 3 [repT 3 lateD] = 3 ∧ cwD "if" 3 [repT 3 [ifAA [turnD] [turnD]]] = 3 := by decide +kernel
end Lw

set_option maxRecDepth 100000
namespace Lw
open PySem PySem.Spec PyProof.Rows L2 VG
open L2H (RoomH)
section
variable {P : Program} {w : World} {K : PySem.W.Frag} {mg : Str → Option Value} {base : Heap}
theorem scFields : FnScope ["_law_e"] ["_law_e"] (defScope s__law_fields) := ⟨rfl, rfl, rfl, by decide +kernel, rfl, by decide +kernel, by decide +kernel⟩
theorem ok_fields {f : Addr} {fd : FuncData} (F : Fun K "_law_fields" "_law_fields" s__law_fields f fd) : FnE P w K mg base CX0 1 f fd ["_law_e"] (spFields K) := by
  refine okE F scFields (fun p vs H Q E h => ?_) (fun cdv A outer s H vs Q E p hr h => ?_)
  · obtain ⟨rfl, _⟩ := h
    rfl
  · obtain ⟨rfl, nm, fs, ys, c, el, q⟩ := h
    have hp : p ∈ (L2H.cxH CX0 P w K mg base ["_law_e"] "_law_fields" (defScope s__law_fields) f cdv A outer s H E p).nox.pn := List.mem_cons_self
    have hu : (L2H.cxH CX0 P w K mg base ["_law_e"] "_law_fields" (defScope s__law_fields) f cdv A outer s H E p).nox.A.units + 65 < cLine := by
      have z := hr.un
      show (A.deeper _).units + 65 < cLine
      omega
    refine ⟨_, pss_cons (ps_inRet (i := 0) (ns := ["given"]) (l := ["InvalidRatio", "InvalidNumber", "InvalidName", "InvalidLayer", "InvalidPlace", "InvalidPoint", "InvalidForm", "InvalidLimit"]) hp hu (by decide) (by decide) (by decide +kernel) (pv 0) (pa_cons pe_str (pa_cons pe_str (pa_cons pe_str (pa_cons pe_str (pa_cons pe_str (pa_cons pe_str (pa_cons pe_str (pa_cons pe_str pa_nil)))))))) (pa_flds hp (pv 0) (by decide) pa_flds0))
      (pss_cons (ps_inRet (i := 0) (ns := ["at"]) (l := ["InvalidRow", "InvalidFact", "InvalidCommand"]) hp hu (by decide) (by decide) (by decide +kernel) (pv 0) (pa_cons pe_str (pa_cons pe_str (pa_cons pe_str pa_nil))) (pa_flds hp (pv 0) (by decide) pa_flds0))
      (pss_cons (ps_inRet (i := 0) (ns := ["path"]) (l := ["InvalidStep", "UnlikeEnds"]) hp hu (by decide) (by decide) (by decide +kernel) (pv 0) (pa_cons pe_str (pa_cons pe_str pa_nil)) (pa_flds hp (pv 0) (by decide) pa_flds0))
      (pss_cons (ps_inRet (i := 0) (ns := ["name"]) (l := ["DuplicateName", "UnknownName"]) hp hu (by decide) (by decide) (by decide +kernel) (pv 0) (pa_cons pe_str (pa_cons pe_str pa_nil)) (pa_flds hp (pv 0) (by decide) pa_flds0))
      (pss_cons (ps_inRet (i := 0) (ns := ["word"]) (l := ["InvalidText", "UnknownScript"]) hp hu (by decide) (by decide) (by decide +kernel) (pv 0) (pa_cons pe_str (pa_cons pe_str pa_nil)) (pa_flds hp (pv 0) (by decide) pa_flds0))
      (pss_cons (ps_eqRet (i := 0) (ns := ["layer"]) (z := "InvalidTable") hp (by decide) (pv 0) (pa_flds hp (pv 0) (by decide) pa_flds0))
      (pss_cons (ps_eqRet (i := 0) (ns := ["layer", "start", "goal"]) (z := "InvalidWay") hp (by decide) (pv 0) (pa_flds hp (pv 0) (by decide) (pa_flds hp (pv 0) (by decide) (pa_flds hp (pv 0) (by decide) pa_flds0))))
      (pss_cons (ps_eqRet (i := 0) (ns := ["limit"]) (z := "Full") hp (by decide) (pv 0) (pa_flds hp (pv 0) (by decide) pa_flds0))
      (pss_cons (ps_eqRet (i := 0) (ns := ["line"]) (z := "InvalidPage") hp (by decide) (pv 0) (pa_flds hp (pv 0) (by decide) pa_flds0))
      (pss_one (ps_endRet (i := 0) (ns := ["subject", "most"]) (z := "TooMany") hp (by decide) (pv 0) (pa_flds hp (pv 0) (by decide) (pa_flds hp (pv 0) (by decide) pa_flds0)))))))))))), ?_⟩
    unfold VG.fieldsOf at el
    refine ⟨rfl, nm, fs, c, fun e => ⟨ys, by rw [if_pos e] at el; exact el, q⟩, fun e H1 s1 => ?_⟩
    rw [if_neg (by rw [e]; exact Bool.false_ne_true)] at el
    refine ⟨rfl, nm, fs, c.same s1, fun e => ⟨ys, by rw [if_pos e] at el; exact el, fun T H' z => q T H' (s1.trans z)⟩, fun e H2 s2 => ?_⟩
    rw [if_neg (by rw [e]; exact Bool.false_ne_true)] at el
    replace s2 := s1.trans s2
    refine ⟨rfl, nm, fs, c.same s2, fun e => ⟨ys, by rw [if_pos e] at el; exact el, fun T H' z => q T H' (s2.trans z)⟩, fun e H3 s3 => ?_⟩
    rw [if_neg (by rw [e]; exact Bool.false_ne_true)] at el
    replace s3 := s2.trans s3
    refine ⟨rfl, nm, fs, c.same s3, fun e => ⟨ys, by rw [if_pos e] at el; exact el, fun T H' z => q T H' (s3.trans z)⟩, fun e H4 s4 => ?_⟩
    rw [if_neg (by rw [e]; exact Bool.false_ne_true)] at el
    replace s4 := s3.trans s4
    refine ⟨rfl, nm, fs, c.same s4, fun e => ⟨ys, by rw [if_pos e] at el; exact el, fun T H' z => q T H' (s4.trans z)⟩, fun e H5 s5 => ?_⟩
    rw [if_neg (by rw [e]; exact Bool.false_ne_true)] at el
    replace s5 := s4.trans s5
    refine ⟨rfl, nm, fs, c.same s5, fun e => ⟨ys, by rw [if_pos e] at el; exact el, fun T H' z => q T H' (s5.trans z)⟩, fun e H6 s6 => ?_⟩
    rw [if_neg (by rw [show decide (nm = "InvalidTable") = false from e]; exact Bool.false_ne_true)] at el
    replace s6 := s5.trans s6
    refine ⟨rfl, nm, fs, c.same s6, fun e => ⟨ys, by rw [if_pos e] at el; exact el, fun T H' z => q T H' (s6.trans z)⟩, fun e H7 s7 => ?_⟩
    rw [if_neg (by rw [show decide (nm = "InvalidWay") = false from e]; exact Bool.false_ne_true)] at el
    replace s7 := s6.trans s7
    refine ⟨rfl, nm, fs, c.same s7, fun e => ⟨ys, by rw [if_pos e] at el; exact el, fun T H' z => q T H' (s7.trans z)⟩, fun e H8 s8 => ?_⟩
    rw [if_neg (by rw [show decide (nm = "Full") = false from e]; exact Bool.false_ne_true)] at el
    replace s8 := s7.trans s8
    refine ⟨rfl, nm, fs, c.same s8, fun e => ⟨ys, by rw [if_pos e] at el; exact el, fun T H' z => q T H' (s8.trans z)⟩, fun e H9 s9 => ?_⟩
    rw [if_neg (by rw [show decide (nm = "InvalidPage") = false from e]; exact Bool.false_ne_true)] at el
    replace s9 := s8.trans s9
    exact ⟨rfl, nm, fs, c.same s9, ys, el, fun T H' z => q T H' (s9.trans z)⟩
end
end Lw

set_option maxRecDepth 100000
namespace Lw
open PySem PySem.Spec PyProof.Rows L2 VG
section
variable {P : Program} {w : World} {K : PySem.W.Frag} {mg : Str → Option Value} {base : Heap}
/-- what copied asks of the names of the top -/
structure NmC (mg : Str → Option Value) : Prop where
  isi : mg "isinstance" = none
  list : mg "list" = none
  tup : mg "tuple" = none
theorem scCopied : FnScope ["value", "item"] ["value"] (defScope s_copied) := ⟨rfl, rfl, rfl, by decide +kernel, rfl, by decide +kernel, by decide +kernel⟩
theorem copied_step {n k : Nat} {f : Addr} {fd : FuncData} (F : Fun K "copied" "copied" s_copied f fd) (T : NmC mg) (mC : mg "copied" = some (.ref f)) (bC : Binds K fd ["value"] []) (G : FnOk P w K mg base CX0 k f fd ["value"] (spPrev K n)) :
    FnOk P w K mg base CX0 (k + 1) f fd ["value"] (spCopy K n) := by
  refine F.ok scCopied (fun vs H Q E h => ?_) (fun cdv A outer s H vs Q E hr h => ?_)
  · obtain ⟨x, d, rfl, _⟩ := h
    rfl
  · obtain ⟨x, d, rfl, hx, hf, q⟩ := h
    have nd := scCopied.nd
    refine ⟨_, pss_cons (ps_if (pt_val (pe_callB call_isi (by rfl) T.isi (by decide +kernel) (pa_cons (pv 0) (pa_cons (pe_bltn (v := .ty "list") (by rfl) T.list (by decide +kernel) rfl) pa_nil))))
        (pss_one (ps_ret (pe_lc (own := [("item", 1)]) (g := gName 1) (tt := tYes) rfl nd (pi_list (pv 0)) (blkOk_by (own := [("item", 1)]) (N := ["value", "item"]) (sc := defScope s_copied) (by decide +kernel)) (fun _ _ _ _ _ => pg_name (i := 1) nd rfl (Or.inl rfl)) (fun _ _ _ _ _ => pts_nil)
          (fun _ _ _ _ _ => pe_call G hr (by rfl) mC F.kp bC .nil pass0 (pa_cons (pv 1) pa_nil))))) pss_nil)
      (pss_cons (ps_if (pt_val (pe_callB call_isi (by rfl) T.isi (by decide +kernel) (pa_cons (pv 0) (pa_cons (pe_bltn (v := .ty "tuple") (by rfl) T.tup (by decide +kernel) rfl) pa_nil))))
        (pss_one (ps_ret (pe_callTy call_tuple_of (by rfl) T.tup (by decide +kernel) (pa_cons (pe_lc (own := [("item", 1)]) (g := gName 1) (tt := tYes) rfl nd (pi_tup (pv 0)) (blkOk_by (own := [("item", 1)]) (N := ["value", "item"]) (sc := defScope s_copied) (by decide +kernel)) (fun _ _ _ _ _ => pg_name (i := 1) nd rfl (Or.inl rfl)) (fun _ _ _ _ _ => pts_nil)
          (fun _ _ _ _ _ => pe_call G hr (by rfl) mC F.kp bC .nil pass0 (pa_cons (pv 1) pa_nil))) pa_nil)))) pss_nil)
      (pss_one (ps_ret (pv 0)))), ?_⟩
    cases hx with
    | non => exact ⟨_, rfl, _, _, _, _, false, rfl, .ty "list", .base .non, kit_ty (by decide +kernel), _, rfl, iteF ⟨_, rfl, _, _, _, _, false, rfl, .ty "tuple", .base .non, kit_ty (by decide +kernel), _, rfl, iteF ⟨_, rfl, q _ H (Same.refl H) .non⟩⟩⟩
    | bl b => exact ⟨_, rfl, _, _, _, _, false, rfl, .ty "list", .base (.bl b), kit_ty (by decide +kernel), _, rfl, iteF ⟨_, rfl, _, _, _, _, false, rfl, .ty "tuple", .base (.bl b), kit_ty (by decide +kernel), _, rfl, iteF ⟨_, rfl, q _ H (Same.refl H) (.bl b)⟩⟩⟩
    | int i => exact ⟨_, rfl, _, _, _, _, false, rfl, .ty "list", .base (.int i), kit_ty (by decide +kernel), _, rfl, iteF ⟨_, rfl, _, _, _, _, false, rfl, .ty "tuple", .base (.int i), kit_ty (by decide +kernel), _, rfl, iteF ⟨_, rfl, q _ H (Same.refl H) (.int i)⟩⟩⟩
    | str z => exact ⟨_, rfl, _, _, _, _, false, rfl, .ty "list", .base (.str z), kit_ty (by decide +kernel), _, rfl, iteF ⟨_, rfl, _, _, _, _, false, rfl, .ty "tuple", .base (.str z), kit_ty (by decide +kernel), _, rfl, iteF ⟨_, rfl, q _ H (Same.refl H) (.str z)⟩⟩⟩
    | @lst a xs ds hs hd =>
      refine ⟨_, rfl, _, _, _, _, true, rfl, .ty "list", tyx_list hs, kit_ty (by decide +kernel), _, rfl, iteT ?_⟩
      obtain ⟨m, rfl, hw, hl⟩ : ∃ m, n = m + 1 ∧ ds.length ≤ 1000 ∧ ∀ d ∈ ds, fit m d = true := by
        cases n with
        | zero => cases hf
        | succ m =>
          obtain ⟨h1, h2⟩ := Bool.and_eq_true_iff.mp (show (decide (ds.length ≤ 1000) && ds.all (fit m)) = true from hf)
          exact ⟨m, rfl, of_decide_eq_true h1, List.all_eq_true.mp h2⟩
      refine ⟨_, rfl, a, rfl, ⟨_, hs⟩, fun D hD => lc_list (K := K) (a := a) (xs := xs) (Copying K H D ds) (Copying.start hD) (fun i G _ c => c.same.seq hs) (fun i y G hy c => ?_) (fun G c => ?_)⟩
      · obtain ⟨e, he, hye⟩ := DpAll.at' hd hy
        refine ⟨rfl, y, rfl, y, e, rfl, Dp.same c.same e y hye, hl e (List.mem_of_getElem? he), fun y' G' sm hn => ?_⟩
        obtain ⟨acc, e1, e2, e3⟩ := c.more hD he sm hn
        have lt : i < ds.length := (List.getElem?_eq_some_iff.mp he).1
        exact ⟨acc, e1, by rw [e2]; exact Nat.lt_of_lt_of_le (Nat.lt_of_lt_of_le lt hw) (by decide), e3⟩
      · rw [DpAll.len hd] at c
        obtain ⟨acc, e1, e2⟩ := c.all hD
        exact q _ G c.same (.lst (SqL.of (by rw [newer_at hD]; exact e1)) e2)
    | @tup a xs ds hs hd =>
      refine ⟨_, rfl, _, _, _, _, false, rfl, .ty "list", tyx_tup hs, kit_ty (by decide +kernel), _, rfl, iteF ⟨_, rfl, _, _, _, _, true, rfl, .ty "tuple", tyx_tup hs, kit_ty (by decide +kernel), _, rfl, iteT ?_⟩⟩
      obtain ⟨m, rfl, hw, hl⟩ : ∃ m, n = m + 1 ∧ ds.length ≤ 1000 ∧ ∀ d ∈ ds, fit m d = true := by
        cases n with
        | zero => cases hf
        | succ m =>
          obtain ⟨h1, h2⟩ := Bool.and_eq_true_iff.mp (show (decide (ds.length ≤ 1000) && ds.all (fit m)) = true from hf)
          exact ⟨m, rfl, of_decide_eq_true h1, List.all_eq_true.mp h2⟩
      refine ⟨_, rfl, a, rfl, ⟨_, hs⟩, fun D hD => lc_tup (K := K) (a := a) (xs := xs) (Copying K H D ds) (Copying.start hD) (fun i G _ c => Same.tup c.same hs) (fun i y G hy c => ?_) (fun G c => ?_)⟩
      · obtain ⟨e, he, hye⟩ := DpAll.at' hd hy
        refine ⟨rfl, y, rfl, y, e, rfl, Dp.same c.same e y hye, hl e (List.mem_of_getElem? he), fun y' G' sm hn => ?_⟩
        obtain ⟨acc, e1, e2, e3⟩ := c.more hD he sm hn
        have lt : i < ds.length := (List.getElem?_eq_some_iff.mp he).1
        exact ⟨acc, e1, by rw [e2]; exact Nat.lt_of_lt_of_le (Nat.lt_of_lt_of_le lt hw) (by decide), e3⟩
      · rw [DpAll.len hd] at c
        obtain ⟨acc, e1, e2⟩ := c.all hD
        refine ⟨D, acc, rfl, .inl ⟨SqL.of e1, fun l hl => ?_⟩⟩
        have sm := same_upd (o := .tup acc) hl
        have hl0 : H l = none := c.same.free hl
        refine q _ _ (c.same.trans sm) (.tup (SqT.of (by rw [newer_at hl0]; exact upd_same)) (DpAll.same (newer_mono (fun b z => z) fun b z o e => sm b o e) _ _ e2))
/-- copied, for data of any depth -/
theorem ok_copied {f : Addr} {fd : FuncData} (F : Fun K "copied" "copied" s_copied f fd) (T : NmC mg) (mC : mg "copied" = some (.ref f)) (bC : Binds K fd ["value"] []) : ∀ n, FnOk P w K mg base CX0 (n + 1) f fd ["value"] (spCopy K n)
  | 0 => copied_step F T mC bC ⟨fun _ _ _ _ h => False.elim h, fun _ _ _ _ _ _ _ _ _ _ _ _ _ h => False.elim h⟩
  | n + 1 => copied_step F T mC bC (ok_copied F T mC bC n)
end
end Lw

set_option maxRecDepth 100000
set_option linter.unusedVariables false
set_option maxHeartbeats 1000000
/-! sorted(xs, key=lambda a: ..): the lambda made, its code object in the def's table; called for each item. -/
namespace VG
open PySem PySem.Spec PyProof.Rows L2 LamX
section
variable {X : Cx} {pins : List (Addr × Obj)} {σ : L2.St} {H : Hp} {s : Shared}
/-- lambda a: body, evaluated -/
theorem kl_make {T : List (Addr × Str)} {c P : Addr} {params : Arguments} {body : Expr} {scope : Scope} {pos : Pos} {E : Value → Shared → Prop} {Q : Value → Shared → Prop} (I : Inv X pins σ H s) (TB : TabB X.base X.mg c P) (hcode : X.env.code = .ref c)
    (hm : (P, X.env.qual ++ "<lambda>") ∈ T) (hu : ∀ p ∈ T, p.1 = P → p.2 = X.env.qual ++ "<lambda>") (hT : Tabs T H) (hdef : defaultsOf params X.env = ([], [])) (hkw : params.kwonlyargs = [])
    (hfree : ∀ y ∈ scope.names, y.2 = .free → ∃ c, X.env.cells.lookup y.1 = some c)
    (h : ∀ (f c' : Addr) (pm ctv : Value) (H1 : Hp) (s' : Shared), Inv X pins σ H1 s' → ExtN H H1 → Tabs T H1 → s.heap.objs.size ≤ f →
      Loose X H1 s' f (dlObj (X.env.qual ++ "<lambda>") params body scope (cloFrom X.env.cells scope.names []) pm (.ref c') ctv .none) → H1 c' = some (CodeO c' (X.env.qual ++ "<lambda>")) → Q (.ref f) s') :
    wpAny (model X.prog X.w) X.A (eval (.Lambda params body scope pos) X.env) Q E s := by
  rw [arm_eval_Lambda, hdef]
  show wpAny (model X.prog X.w) X.A (do let dv ← evalAll []; let kdv ← holding dv (evalAllOpt []); makeFunction "<lambda>" (X.env.qual ++ "<lambda>") params (.expr body) scope X.env dv kdv [] pos pos.line) Q E s
  refine wpAny_bind (wpAny_evalAll_nil ?_)
  refine wpAny_bind (wpAny_holding (wpAny_pure ?_))
  rw [makeFunction_eq, hkw]
  simp only [List.zip_nil_left, List.filterMap_nil, List.isEmpty_nil, if_true, pure_bind]
  obtain ⟨ps, hP, ok, at'⟩ := hT _ hm
  have gP : s.heap.get? P = some { cls := .none, data := .fields ps } := I.hok P _ hP
  have bl : s.heap.BuiltinsAt X.mg P := TB.bm.keeps I.bk
  have hPlt : @LT.lt Nat _ P s.heap.objs.size := I.hok.lt hP
  cases e : codeAmong pos ps.toList with
  | some cv =>
    obtain ⟨c', rfl, hco⟩ := at' pos cv e
    refine dl_hit (mg := X.mg) (c := c) (P := P) (ps := ps) (dv := .none) (closure_ok hfree) I.ok.glob (I.mod.glob.keeps I.bk) hcode (TB.code.keeps I.bk) gP ok e bl fun ctv h1 tk kp sz => ?_
    have I3 : Inv X pins σ H { s with heap := h1.push (dlObj (X.env.qual ++ "<lambda>") params body scope (cloFrom X.env.cells scope.names []) ((X.mg "__name__").getD .none) (.ref c') ctv .none), toks := tk } := I.kept fun b o q => Heap.get?_push_of_some _ (kp b o q)
    exact h h1.objs.size c' _ ctv H _ I3 (ExtN.refl H) hT sz ⟨Heap.get?_push_size _ rfl, I.hok.fresh sz, new_nofr I sz⟩ hco
  | none =>
    refine dl_new (mg := X.mg) (c := c) (P := P) (ps := ps) (dv := .none) (closure_ok hfree) I.ok.glob (I.mod.glob.keeps I.bk) hcode (TB.code.keeps I.bk) gP ok e TB.gP bl fun c' ctv h1 tk ext ge lt rec tab => ?_
    obtain ⟨c2, oc, vs, t, e2, hoc, hd, hv⟩ := rec
    cases e2
    have nC : H c' = none := I.hok.fresh ge
    have I3 := inv_table (t' := tk) (more := #[rawInt pos.line, rawInt pos.col, .ref c']) (h' := h1.push (dlObj (X.env.qual ++ "<lambda>") params body scope (cloFrom X.env.cells scope.names []) ((X.mg "__name__").getD .none) (.ref c') ctv .none)) I hP
      (fun b o hb q => Heap.get?_push_of_some _ (ext b o hb q)) (Heap.get?_push_of_some _ tab) ge ⟨oc, vs, t, Heap.get?_push_of_some _ hoc, hd, hv⟩
    obtain ⟨x1, x2⟩ := tabs_new (p0 := pos) (c' := c') hT hP ok at' nC hu
    have lt : @LT.lt Nat _ c' h1.objs.size := lt
    have ge : @LE.le Nat _ s.heap.objs.size c' := ge
    have n2 : @LE.le Nat _ s.heap.objs.size h1.objs.size := by omega
    have n3 : @Ne Nat h1.objs.size c' := by omega
    have n4 : @Ne Nat h1.objs.size P := by omega
    exact h h1.objs.size c' _ ctv _ _ I3 x1 x2 n2 ⟨Heap.get?_push_size _ rfl, by rw [upd_ne n3, upd_ne n4]; exact I.hok.fresh n2, new_nofr I n2⟩ upd_same
end
/-! ### its call, with an item -/
/-- the context of its body: the parameter ahead of the maker's names -/
def lamCk (X : Cx) (a : Str) (A : Around) (outer : List Env) (s : Shared) (H : Hp) (E : XK) (scope : Scope) (f c' : Addr) : Cx := { lamCx X A outer s H E scope f c' with N := a :: X.N }
section
variable {X : Cx} {pins : List (Addr × Obj)} {σ : L2.St} {H : Hp} {s : Shared}
theorem kl_start {A : Around} {outer : List Env} {E : XK} {scope : Scope} {f c' : Addr} {a : Str} {x : V} {u : Value} {h1 : Heap} {tk : Nat} (I : Inv X pins σ H s) (L : LamD X.env.scope scope a X.N) (e0 : Env0 X.prog X.w X.K X.mg X.base A outer s H) (hd : A.handled = none) (r : RelV x u)
    (hns : h1.Ns s.heap.objs.size fun y => ([(a, u)] : List (Str × Value)).reverse.lookup y) (kp : ∀ b o, s.heap.get? b = some o → h1.get? b = some o) :
    Inv (lamCk X a A outer s H E scope f c') [] (some x :: σ) H { s with heap := h1, toks := tk } := by
  have caught : ∀ {y c}, (cloFrom X.env.cells scope.names []).lookup y = some c → X.env.cells.lookup y = some c := fun {y c} e => by
    rcases cloFrom_mem (PySem.mem_of_lookup e) with hm | ⟨h1, h2⟩
    · cases hm
    · obtain ⟨c1, hc⟩ := L.has I.ok _ h1 rfl
      have hc : X.env.cells.lookup y = some c1 := hc
      rw [hc] at h2
      rw [show c = c1 from h2]
      exact hc
  have looks : ∀ {y}, scope.names.lookup y = some .free → ∃ c, (cloFrom X.env.cells scope.names []).lookup y = some c := fun {y} hl => mem_lookup (cloFrom_has (cells := X.env.cells) (acc := []) (PySem.mem_of_lookup hl))
  have stays : ∀ {c : Addr} {v : Option Value}, s.heap.IsCell c v → h1.IsCell c v := fun {c v} ⟨o, ho, hd⟩ => ⟨_, kp _ _ ho, hd⟩
  have noX : ∀ b : Addr, b ∉ (lamCk X a A outer s H E scope f c').ex := fun b z => absurd (show b ∈ ([] : List Addr) from z) (by simp)
  have okX : (lamCk X a A outer s H E scope f c').Ok := by
    refine ⟨e0.mod, L.kind, rfl, rfl, Nat.le_refl _, fun y z c h1 h2 => I.ok.inj y z c (caught h1) (caught h2), fun y hy => ?_, fun _ _ z _ => Bool.noConfusion (show false = true from z), fun _ => hd, Around.frames_deeper e0.frames, .inr ⟨rfl, rfl⟩, fun b z => absurd z (noX b), e0.bs, e0.bsz, fun b _ _ => noX b,
      fun b z => absurd z (noX b), e0.funs, e0.frf⟩
    have hy : scope.names.lookup y = some .cell ∨ scope.names.lookup y = some .free := hy
    exact hy.elim (fun hy => absurd rfl (L.noc _ (PySem.mem_of_lookup hy))) looks
  refine ⟨okX, rfl, e0.bare, Un.kept kp, ⟨_, hns, fun i y v g1 g2 g3 => ?_⟩, fun y c e => ?_, e0.hok.fresh (Nat.le_refl _), fun y c e => ?_, fun q hq => absurd (show q ∈ ([] : List (Addr × Obj)) ++ [] from hq) (by simp), e0.hok.kept kp, congrArg (· + 1) I.len⟩
  · have g3 : Vis scope y := g3
    cases i with
    | zero =>
      have e1 : y = a := (Option.some.inj g1).symm
      have e2 : v = x := (Option.some.inj (Option.some.inj g2)).symm
      subst e1
      subst e2
      refine ⟨u, r, .inl ⟨?_, ?_⟩⟩
      · exact L.par
      · show ([(y, u)] : List (Str × Value)).reverse.lookup y = some u
        simp
    | succ i =>
      have g1 : X.N[i]? = some y := g1
      have g2 : σ[i]? = some (some v) := g2
      rcases g3 with k | k | k
      · have e := L.own _ (PySem.mem_of_lookup k) rfl
        have e : y = a := e
        exact absurd (List.mem_of_getElem? g1) (by rw [e]; exact L.out)
      · exact absurd rfl (L.noc _ (PySem.mem_of_lookup k))
      · obtain ⟨m, hn, hl⟩ := I.loc
        have fr := L.free _ (PySem.mem_of_lookup k) rfl
        obtain ⟨w', r, q⟩ := hl i y v g1 g2 (fr.elim (fun k => .inr (.inl k)) fun k => .inr (.inr k))
        obtain ⟨c2, h2⟩ := looks k
        have c1 := caught h2
        refine ⟨w', r, .inr ⟨.inr k, c2, h2, ?_⟩⟩
        rcases q with ⟨kl, _⟩ | ⟨_, c3, e', z⟩
        · have kl : X.env.scope.names.lookup y = some .local := kl
          rcases fr with k2 | k2 <;> rw [show X.env.scope.names.lookup y = _ from k2] at kl <;> cases kl
        · rw [c1] at e'
          cases e'
          exact stays z
  · obtain ⟨w', z⟩ := I.cell y c (caught e)
    exact ⟨w', stays z⟩
  · exact I.freeC y c (caught e)
/-- one item, the lambda's body -/
theorem kl_turn {pins' : List (Addr × Obj)} {A : Around} {f c' : Addr} {pm ctv v : Value} {x : V} {params : Arguments} {body : Expr} {scope : Scope} {a : Str} {k : Nat} {tb : TE} {Q : VK}
    (I : Inv X pins' σ H s) (L : LamD X.env.scope scope a X.N) (hf : s.heap.get? f = some (dlObj (X.env.qual ++ "<lambda>") params body scope (cloFrom X.env.cells scope.names []) pm (.ref c') ctv .none)) (hc : s.heap.CodeRec (.ref c') (X.env.qual ++ "<lambda>"))
    (e0 : Env0 X.prog X.w X.K X.mg X.base A X.stack s H) (hb : bindArgs (dlFn (X.env.qual ++ "<lambda>") params body scope (cloFrom X.env.cells scope.names []) pm (.ref c') ctv .none) ⟨[v], []⟩ = pure [(a, v)]) (hr : Room (k + 1) A) (r : RelV x v)
    (bodyOk : ∀ (A : Around) (outer : List Env) (s : Shared) (H : Hp), Room k (A.deeper (lamEnv X scope s.heap.objs.size f c')) → PE (lamCk X a A outer s H E0 scope f c') body tb) (ht : tb (some x :: σ) H Q) :
    wpAny (model X.prog X.w) A (call (.ref f) [v]) (EP X pins' σ Q) (fun _ _ => False) s := by
  have run : codeAny (model X.prog X.w) A (.call (.ref f) ⟨[v], []⟩) (CR (L2.CX X.prog X.w) X.stack X.prog X.w H s Q E0) s := by
    refine PySem.W.kla_callFunE hr.depth hf rfl L.co L.gen rfl hc ?_
    rw [hb]
    refine wpAny_pure (wpAny_newFunctionEnv (fun y hy => L.noc y hy) (fun y hy => ?_) (fun h1 hns hsb => ⟨I.nolimit.fresh _ hsb, ?_⟩) L.kind)
    · obtain rfl := List.mem_singleton.mp hy
      exact L.par
    show codeAny _ _ (.expr body (lamEnv X scope s.heap.objs.size f c')) _ _
    have kp : ∀ b o, s.heap.get? b = some o → h1.get? b = some o := fun b o e => hsb.extBut b o (Nat.ne_of_lt (Heap.lt_size e)) (Heap.get?_push_of_some _ e)
    have J : Inv (lamCk X a A X.stack s H E0 scope f c') [] (some x :: σ) H { s with heap := h1, toks := s.toks + ([(a, v)] : List (Str × Value)).length } := kl_start I L e0 hr.hd r hns kp
    refine PySem.W.kla_codeExpr (wpAny_mono ((bodyOk _ _ s H (hr.deeper _)).run [] _ _ H Q J ht) (fun v s' hq => ?_) fun _ _ hq => hq)
    obtain ⟨y, H', J', rv, q⟩ := hq
    exact ⟨y, H', J'.os, J'.bare, J'.base, J'.hok, rv, q⟩
  refine wpAny_call (codeAny_mono run fun r s' hq => ?_)
  match r, hq with
  | .error e, hq =>
    obtain ⟨_, _, _, _, _, _, _, _, _, _, _, _, z⟩ := hq
    exact z.elim
  | .ok (.ret u), hq => exact I.after hq
  | .ok .next, hq => exact hq.elim
  | .ok .brk, hq => exact hq.elim
  | .ok .cont, hq => exact hq.elim
/-- sorted(xs, key=lambda a: body) -/
def tSortLam (K : PySem.W.Frag) (T : List (Addr × Str)) (q : Str) (ta : TA) (tb : TE) : TE := fun σ H Q => ta σ H fun vs H1 => ∃ l, vs = [.ref l] ∧ Tabs T H1 ∧ ∀ (c' : Addr) (H2 : Hp), ExtN H1 H2 → Tabs T H2 → H2 c' = some (CodeO c' q) → ∃ xs : List V, SqL K H2 l xs ∧ xs.length < 64 ∧
  keysQ (fun x H Q => H c' = some (CodeO c' q) ∧ tb (some x :: σ) H Q) xs [] H2 fun ks H' => ∃ ds : List PyData, DpAll K H' ks ds ∧ ds.length = xs.length ∧ PySem.W.AllAlike ds ∧ PySem.W.Sortable ds ∧ (∀ d ∈ ds, d.depth ≤ 40) ∧ ∀ p, H' p = none → Q (.ref p) (upd H' p (.lst (byKeys ds xs)))
theorem codeRec_of {X : Cx} {pins : List (Addr × Obj)} {σ : L2.St} {H : Hp} {s : Shared} {c' : Addr} {q : Str} (I : Inv X pins σ H s) (h : H c' = some (CodeO c' q)) : s.heap.CodeRec (.ref c') q := by
  obtain ⟨⟨oc, vs, t, hoc, hd, hv⟩, _, _⟩ := I.hok c' _ h
  exact ⟨c', oc, vs, t, rfl, hoc, hd, hv⟩
end
section
variable {X : Cx} {e : Expr} {ta : TA} {p pos kpos lpos : Pos} {T : List (Addr × Str)} {c P : Addr} {params : Arguments} {body : Expr} {scope : Scope} {a : Str} {k : Nat} {tb : TE}
theorem pe_sortedLam {q : Str} (hq : X.env.qual ++ "<lambda>" = q) (hg : Gl X "sorted") (hm : X.mg "sorted" = none) (ha : PA X [e] ta) (TB : TabB X.base X.mg c P) (hcode : X.env.code = .ref c) (hmT : (P, q) ∈ T) (hu : ∀ p ∈ T, p.1 = P → p.2 = q) (hr : Room (k + 3) X.A) (hun : X.A.units + 64 < cLine)
    (L : LamD X.env.scope scope a X.N) (hdef : defaultsOf params X.env = ([], [])) (hkw : params.kwonlyargs = [])
    (hb : ∀ (q : Str) (cl : List (Str × Addr)) (pm cv ctv v : Value), bindArgs (dlFn q params body scope cl pm cv ctv .none) ⟨[v], []⟩ = pure [(a, v)])
    (bodyOk : ∀ (A : Around) (outer : List Env) (s : Shared) (H : Hp) (f c' : Addr), Room k (A.deeper (lamEnv X scope s.heap.objs.size f c')) → PE (lamCk X a A outer s H E0 scope f c') body tb)
    (he : backTo pos (starEach [e] X.env) = (false, eval e X.env) :: backTo pos (starEach [] X.env) := by rfl) (hpl : (backTo pos (starEach [e] X.env)).any (·.1) = false := by rfl) :
    PE X (.Call (.Name "sorted" p) [e] [⟨some "key", .Lambda params body scope lpos, kpos⟩] pos) (tSortLam X.K T q ta tb) := by
  subst hq
  refine ⟨fun pins s σ H Q I h => ?_⟩
  refine wpAny_Call_Name_kw (ld_blt I hg hm (show bootBuiltins "sorted" = some (.builtin "sorted") by decide +kernel) ?_ (by decide) (by decide))
  refine PyProof.Rows.callWith_kw (thn (ha.run pos pins s σ H _ I h) fun us s1 ⟨vs, H1, I1, r1, l, ev, hT, q1⟩ => ?_) he hpl (by rfl) (by rfl)
  subst ev
  obtain rfl := Vals.ref1 r1
  show wpAny _ _ (evalAll [(do let v ← eval (.Lambda params body scope lpos) X.env; standAt pos; pure v)]) _ _ s1
  refine wpAny_evalAll_cons (wpAny_bind (kl_make I1 TB hcode hmT hu hT hdef hkw (L.has I1.ok) fun f c' pm ctv H2 s2 I2 eN T2 hfs hf hco => wpAny_bind (wpAny_standAt (wpAny_pure (wpAny_evalAll_nil ?_)))))
  show wpAny (model X.prog X.w) X.A (call (.builtin "sorted") [.ref l] [(Str.ofString "key", .ref f)]) (EP X pins σ Q) X.xe s2
  obtain ⟨xs, hs, h64, q⟩ := q1 c' H2 eN T2 hco
  obtain ⟨its, rv, hl, hz⟩ := I2.list hs
  have li : its.length = xs.length := rv.length.symm
  have nfs : f ∉ X.fs := I1.nofs hfs
  have nlo : f ≠ X.env.locals := fun z => absurd (Nat.lt_of_lt_of_le I1.lt hfs) (by rw [z]; exact Nat.lt_irrefl _)
  have I3 : Inv X (pins ++ [(f, dlObj (X.env.qual ++ "<lambda>") params body scope (cloFrom X.env.cells scope.names []) pm (.ref c') ctv .none)]) σ H2 s2 := I2.pins_of fun p hp => by
    rcases List.mem_append.mp hp with hp | hp
    · exact I2.pin p (List.mem_append_right _ hp)
    · rw [List.mem_singleton.mp hp]
      exact ⟨hf.get, hf.free, nlo, nfs, fun v z => by cases z⟩
  refine kq_sorted (X := X.tr (X.pn ++ (pins ++ [(f, dlObj (X.env.qual ++ "<lambda>") params body scope (cloFrom X.env.cells scope.names []) pm (.ref c') ctv .none)])) X.xe) (pins := []) (xs := xs) (I3.toTry X.xe) hl.isList (by omega) rv (fun pins' x v H3 s3 Q3 I4 rx q4 => ?_) q fun s' H' ks kA pins' J rk hC lk => ?_
  · obtain ⟨hco3, q4⟩ := q4
    have pf := I4.pin (f, dlObj (X.env.qual ++ "<lambda>") params body scope (cloFrom X.env.cells scope.names []) pm (.ref c') ctv .none) (List.mem_append_left _ (List.mem_append_right _ (List.mem_append_right _ (by simp))))
    exact kl_turn I4 L pf.1 (codeRec_of I4 hco3) I4.env0.in1.in1 (hb _ _ _ _ _ _) hr.in1.in1 rx (fun A o s H hr => bodyOk A o s H f c' hr) q4
  · obtain ⟨ds, hd, ld, al, so, dp, qf⟩ := hC
    have er := each_reads J rk hd
    refine ⟨_, PySem.W.SortsAt.data er al so (fun d hm => ?_), fun D h' c t' hD Od J2 => ?_⟩
    · have := dp d hm
      have e : X.A.in1.in1.units ≤ X.A.units + 2 := Nat.le_refl _
      show X.A.in1.in1.units + _ < _
      omega
    · have ez : (ds.zip xs).map (·.1) = ds := List.map_fst_zip (by omega)
      have ko : PySem.W.KeyedOut false ((ds.zip xs).map fun b : PyData × V => b.1) its (PySem.W.sortVals (PySem.W.dataKind s'.heap ds) false kA its) := by
        rw [ez]
        exact ⟨s'.heap, kA, al, rfl, er⟩
      have eo := PySem.W.keyedOut_each (fun b : PyData × V => b.1) ko (each_zip ld rv)
      have vo := vals_of_each eo
      have J3 := (adopt (o := .lst (byKeys ds xs)) J2 Od ⟨by
        unfold byKeys
        rw [List.length_map, List.length_mergeSort, List.length_zip, ld, Nat.min_self]
        exact Nat.le_of_lt (Nat.lt_of_lt_of_le h64 (by decide)), _, c, vo, (J2.pin _ (List.mem_append_right _ (List.mem_append_right _ List.mem_cons_self))).1⟩)
      exact ⟨.ref D, upd H' D (.lst (byKeys ds xs)), (J3.ofTry I.ok).unpinned, rfl, qf D hD⟩
end
end VG

set_option maxRecDepth 100000
set_option linter.unusedVariables false
set_option maxHeartbeats 1000000
/-! A def whose code object is known (it makes lambdas); data where a table grows. -/
namespace VG
open PySem PySem.Spec PyProof.Rows L2 LamX
section
variable {P : Program} {w : World} {K : PySem.W.Frag} {mg : Str → Option Value} {base : Heap}
theorem okC {x qual : Str} {st : Stmt} {f c : Addr} {fd : FuncData} {N ps : List Str} {k : Nat} {sp : Sp} (F : Fun K x qual st f fd) (S : FnScope N ps (defScope st)) (hc : fd.code = .ref c) (many : ∀ vs H Q E, sp vs H Q E → vs.length = ps.length)
    (body : ∀ (A : Around) (outer : List Env) (s : Shared) (H : Hp) (vs : List V) (Q : VK) (E : XK), Room k (A.deeper (envOfC qual (defScope st) s.heap.objs.size f (.ref c))) → sp vs H Q E →
      ∃ t, PSs (cxOf CX0 P w K mg base N qual (defScope st) f (.ref c) A outer s H E).nox (defBody st) t ∧
        t { nx := fun _ H' => Q .non H', rt := Q } (L2.start N vs) H) : FnOk P w K mg base CX0 (k + 1) f fd ps sp := by
  obtain ⟨oc, od, kV, doc, pm, an, cdv, ct, osl, rfl, lk, hcd⟩ := F.ex
  obtain rfl : cdv = .ref c := hc
  refine ⟨many, fun A outer s H args us vs Q E hr e0 hb r q => LamX.run_ofS lk hcd S hr e0 hb r (many _ _ _ _ q) fun hr' => ?_⟩
  obtain ⟨t, h1, h2⟩ := body A outer s H vs Q E hr' q
  exact ⟨t, h1.nox, h2⟩
end
theorem seqs_ext {H H' : Hp} (e : ExtN H H') : Same (seqs H) H' := fun b o h => by
  obtain ⟨h1, h2⟩ := seqs_sub h
  exact e b o h1 h2
theorem Dp.extN {K : PySem.W.Frag} {H H' : Hp} {v : V} {d : PyData} (e : ExtN H H') (h : Dp K H v d) : Dp K H' v d := Dp.same (seqs_ext e) _ _ (Dp.seqs d v h)
theorem SqT.extN {K : PySem.W.Frag} {H H' : Hp} {a : Addr} {xs : List V} (e : ExtN H H') (h : SqT K H a xs) : SqT K H' a xs := by
  rcases h with (h | ⟨o, h⟩) | h
  · exact .inl (.inl (e _ _ h fun _ z => by cases z))
  · exact .inl (.inr ⟨o, e _ _ h fun _ z => by cases z⟩)
  · exact .inr h
theorem SqL.extN {K : PySem.W.Frag} {H H' : Hp} {a : Addr} {xs : List V} (e : ExtN H H') (h : SqL K H a xs) : SqL K H' a xs := by
  rcases h with (h | ⟨o, h⟩) | h
  · exact .inl (.inl (e _ _ h fun _ z => by cases z))
  · exact .inl (.inr ⟨o, e _ _ h fun _ z => by cases z⟩)
  · exact .inr h
end VG

set_option linter.all false
set_option maxRecDepth 100000
set_option maxHeartbeats 4000000
/-! tuple * any small number: none and one, too. -/
namespace VG
open PySem PySem.Spec PyProof.Rows L2
theorem tuple_mulZ (l : Addr) (items : Array Value) (n : Nat) (dd : Option Addr) (sl : Array (Option Value)) (x : Int) (u : Tok) (c0 : (decide (x < -(2 ^ 63)) || decide (x ≥ 2 ^ 63)) = false) (c1 : (items.isEmpty || x == 1) = false) (c2 : (decide (x ≤ 0) || items.isEmpty) = true) :
    Meets (Builtin.«tuple.__mul__» ⟨[.ref l, .int x u], []⟩) (fun _ R s => s.heap.get? l = some { cls := .type "tuple", dict := dd, data := .seq items n, slots := sl } ∧
      R (.ok (.ret (Value.ref s.heap.objs.size))) { s with heap := s.heap.push { cls := Value.type "tuple", data := Data.seq #[] }, toks := s.toks }) :=
  .of_wp fun prog w A R s h => by
    obtain ⟨hp, g, d, tk, os⟩ := s
    obtain ⟨hl, h⟩ := h
    have f1 := AutoSeq1.idx_int
    wp_walk using wpAny_loadPart' hl
    repeat (first
      | (refine wpAny_ite_false (decide_eq_false (by rw [c0]; exact Bool.false_ne_true)) ?_; wp_walk using wpAny_loadPart' hl)
      | (refine wpAny_ite_false (decide_eq_false (by rw [c1]; exact Bool.false_ne_true)) ?_; wp_walk using wpAny_loadPart' hl)
      | (refine wpAny_ite_true (decide_eq_true (by rw [c2])) ?_; wp_walk using wpAny_loadPart' hl))
    exact ⟨_, rfl, h⟩
theorem tuple_mulO (l : Addr) (items : Array Value) (n : Nat) (dd : Option Addr) (sl : Array (Option Value)) (x : Int) (u : Tok) (c0 : (decide (x < -(2 ^ 63)) || decide (x ≥ 2 ^ 63)) = false) (c1 : (items.isEmpty || x == 1) = true) :
    Meets (Builtin.«tuple.__mul__» ⟨[.ref l, .int x u], []⟩) (fun _ R s => s.heap.get? l = some { cls := .type "tuple", dict := dd, data := .seq items n, slots := sl } ∧
      R (.ok (.ret (Value.ref l))) s) :=
  .of_wp fun prog w A R s h => by
    obtain ⟨hp, g, d, tk, os⟩ := s
    obtain ⟨hl, h⟩ := h
    have f1 := AutoSeq1.idx_int
    wp_walk using wpAny_loadPart' hl
    repeat (first
      | (refine wpAny_ite_false (decide_eq_false (by rw [c0]; exact Bool.false_ne_true)) ?_; wp_walk using wpAny_loadPart' hl)
      | (refine wpAny_ite_true (decide_eq_true (by rw [c1])) ?_; wp_walk using wpAny_loadPart' hl))
    exact ⟨_, rfl, h⟩
def rRepA (K : PySem.W.Frag) : R2 := fun x y H Q => ∃ l k xs, x = .ref l ∧ y = .int k ∧ SqT K H l xs ∧ xs ≠ [] ∧ -1000 ≤ k ∧ k ≤ 1000 ∧ xs.length ≤ 1000 ∧ (k = 1 → Q (.ref l) H) ∧ (k ≠ 1 → ∀ p, H p = none → Q (.ref p) (upd H p (.tup (List.replicate k.toNat xs).flatten)))
section
variable {X : Cx}
theorem op_repA : OpR X (binaryOp .Mult) (rRepA X.K) := by
  intro pins s σ H x y v u Q I rx ry h
  obtain ⟨l, k, xs, rfl, rfl, hT, hne, h0, h2, hz, q1, q2⟩ := h
  by_cases hk : 2 ≤ k
  · exact op_repT pins s σ H _ _ v u Q I rx ry ⟨l, k, xs, rfl, rfl, hT, hne, hk, h2, hz, q2 (by omega)⟩
  cases rx
  obtain ⟨t, rfl⟩ := ry
  obtain ⟨its, r, ⟨⟨cls, dd, data, sl⟩, ho, hc, n, hd⟩, hs⟩ := I.tuple hT
  simp only at hc hd
  subst hc hd
  have hle : its.length = xs.length := r.length.symm
  have hn : its ≠ [] := fun e => hne (by
    rw [e] at hle
    exact List.eq_nil_of_length_eq_zero hle.symm)
  have hi : its.toArray.isEmpty = false := by
    cases its with
    | nil => exact absurd rfl hn
    | cons a b => rfl
  have c0 : (decide (k < -(2 ^ 63)) || decide (k ≥ 2 ^ 63)) = false := by
    rw [decide_eq_false (by omega), decide_eq_false (by omega)] <;> rfl
  by_cases h1 : k = 1
  · have c1 : (its.toArray.isEmpty || k == 1) = true := by
      rw [h1]
      simp
    refine wpAny_binaryOp_repeat_ref (T := "tuple") (U := "int") (by decide) ⟨_, ho, rfl⟩ (fun s' => typeIs_int s' k t) noFill_tuple_mul F.fills_int_mul F.slot_int_rmul repeat_tuple F.slot_int_index.lookup
      (call_meets F.slot_int_rmul (typeIs_int s k t) F.entry_int_rmul (F.args_int_rmul_2 _ _) (int_rmul_tuple k t l its.toArray n dd sl)
        ⟨ho, rfl, ⟨_, ho, rfl⟩, call_meets F.slot_tuple_mul ⟨_, ho, rfl⟩ F.entry_tuple_mul (F.args_tuple_mul_2 _ _) (tuple_mulO l its.toArray n dd sl k t c0 c1) ⟨ho, ?_⟩⟩)
    exact ⟨.ref l, _, I, rfl, q1 h1⟩
  · have c1 : (its.toArray.isEmpty || k == 1) = false := by
      rw [hi, Bool.false_or]
      exact beq_eq_false_iff_ne.mpr h1
    have c2 : (decide (k ≤ 0) || its.toArray.isEmpty) = true := by
      rw [decide_eq_true (by omega)]
      rfl
    have e0 : (List.replicate k.toNat xs).flatten = [] := by
      have : k.toNat = 0 := by omega
      rw [this]
      rfl
    refine wpAny_binaryOp_repeat_ref (T := "tuple") (U := "int") (by decide) ⟨_, ho, rfl⟩ (fun s' => typeIs_int s' k t) noFill_tuple_mul F.fills_int_mul F.slot_int_rmul repeat_tuple F.slot_int_index.lookup
      (call_meets F.slot_int_rmul (typeIs_int s k t) F.entry_int_rmul (F.args_int_rmul_2 _ _) (int_rmul_tuple k t l its.toArray n dd sl)
        ⟨ho, rfl, ⟨_, ho, rfl⟩, call_meets F.slot_tuple_mul ⟨_, ho, rfl⟩ F.entry_tuple_mul (F.args_tuple_mul_2 _ _) (tuple_mulZ l its.toArray n dd sl k t c0 c1 c2) ⟨ho, ?_⟩⟩)
    have q := q2 h1
    rw [e0] at q
    refine ⟨.ref s.heap.objs.size, _, I.laid (t' := s.toks) (o := .tup []) (fun b ob q => Heap.get?_push_of_some _ q) (Nat.le_refl _) ?_, rfl, q _ (I.hok.fresh (Nat.le_refl _))⟩
    exact ⟨Nat.zero_le _, [], .nil, IsTup.new _ _⟩
end
end VG

set_option maxRecDepth 100000
set_option linter.unusedVariables false
set_option maxHeartbeats 2000000
namespace Lw
open PySem PySem.Spec PyProof.Rows L2 VG LamX
theorem Src.on {H H' : Hp} {p q : Addr} {cells : List Int} (s : Src H p q cells) (e : Same H H') : Src H' p q cells := by
  obtain ⟨⟨i, c, sd, n, h1, h2, h3⟩, h4, h5, h6⟩ := s
  exact ⟨⟨i, c, sd, n, e _ _ h1, h2, h3⟩, e _ _ h4, h5, h6⟩
abbrev NL : List Str := ["_law_script_z", "_law_src", "_law_turn", "_law_many", "_law_by", "_law_count", "_law_due", "_law_test", "_law_most", "_law_name", "_law_asks", "_law_late", "_law_puts", "_law_steps", "_law_tests"]
theorem scLaw : FnScope NL ["_law_script_z"] (defScope sLaw) := ⟨rfl, rfl, rfl, by decide +kernel, rfl, by decide +kernel, by decide +kernel⟩
theorem scAsk : FnScope ["_law_f", "_law_e"] ["_law_f"] (defScope s__law_ask) := ⟨rfl, rfl, rfl, by decide +kernel, rfl, by decide +kernel, by decide +kernel⟩
abbrev lamQ : Str := "law.<locals>.<lambda>"
/-- what asking needs: the def, the errors that it catches, the fields -/
structure AskT (P : Program) (w : World) (K : PySem.W.Frag) (mg : Str → Option Value) (base : Heap) (c tb : Addr) (cs : List Value) : Prop where
  ask : ∃ (g : Addr) (fd : FuncData), Fun K "_law_ask" "_law_ask" s__law_ask g fd ∧ mg "_law_ask" = some (.ref g) ∧ L2.Binds K fd ["_law_f"] []
  fields : ∃ (f : Addr) (fd : FuncData), FnE P w K mg base CX0 1 f fd ["_law_e"] (spFields K) ∧ mg "_law_fields" = some (.ref f) ∧ PySem.W.keepIn K (.ref f) = true ∧ L2.Binds K fd ["_law_e"] []
  errs : ∃ c1 c2 c3, cs = [c1, c2, c3] ∧ mg "MilesError" = some c1 ∧ mg "Missing" = some c2 ∧ mg "NothingLeft" = some c3
  tab : TabB base mg c tb
section
variable {X : Cx} {c tb : Addr} {cs : List Value} {k : Nat} {params : Arguments} {body : Expr} {scope : Scope} {t : XK → TE} {p lpos pos p0 : Pos} {a : Str} {z : Int} {j : Nat}
theorem gives {g : Addr} {cdg : Value} (T : AskT X.prog X.w X.K X.mg X.base c tb cs) (hr : Room (k + 2) X.A) : GivesTo X ["_law_f", "_law_e"] "_law_ask" (defScope s__law_ask) g cdg (defBody s__law_ask) "_law_f" lamQ (TAsk X.K cs) := by
  obtain ⟨f, fdF, F1, F2, F3, F4⟩ := T.fields
  obtain ⟨c1, c2, c3, rfl, e1, e2, e3⟩ := T.errs
  exact ask_gives (sg := defScope s__law_ask) (e := "_law_e") (y := "_law_fields") (xA := "MilesError") (xB := "Missing") (xC := "NothingLeft") F1 (hr.mono (by omega)) scAsk.nd rfl (by rfl) (by rfl) (by rfl) (by rfl) (by rfl) e1 e2 e3 F2 F3 F4 (by decide) (by decide) (by decide) (by decide) (by decide) (by decide) (fun _ => rfl) (by decide)
theorem pe_ask (T : AskT X.prog X.w X.K X.mg X.base c tb cs) (hcode : X.env.code = .ref c) (hq : X.env.qual ++ "<lambda>" = lamQ) (hg : Gl X "_law_ask") (hr : Room (k + 2) X.A) (L : LamS X.env.scope scope) (hdef : defaultsOf params X.env = ([], []))
    (hbind : ∀ (q : Str) (cl : List (Str × Addr)) (pm cv ctv : Value), bindArgs (PySem.W.kla_fn "<lambda>" q params body scope cl pm cv ctv) ⟨[], []⟩ = pure [])
    (hbody : ∀ (A : Around) (outer : List Env) (s : Shared) (H : Hp) (E : XK) (f c' : Addr), Room k (A.deeper (lamEnv X scope s.heap.objs.size f c')) → PE (lamCx X A outer s H E scope f c') body (t E)) :
    PE X (.Call (.Name "_law_ask" p) [.Lambda params body scope lpos] [] pos) (tLam [(tb, lamQ)] (TAsk X.K cs) t) := by
  obtain ⟨g, fd, F, m, b⟩ := T.ask
  obtain ⟨oc, od, kV, doc, pm, an, cdv, ct, osl, rfl, lk, hcd⟩ := F.ex
  exact pe_lamcall hg m F.kp lk hcd b scAsk rfl (.inl rfl) (by rw [hq]; exact gives T hr) T.tab hcode (by rw [hq]; exact List.mem_singleton.mpr rfl) (fun p hp e => by rw [hq]; rw [List.mem_singleton.mp hp]) hr L hdef hbind hbody
theorem pe_ask0 (T : AskT X.prog X.w X.K X.mg X.base c tb cs) (hcode : X.env.code = .ref c) (hq : X.env.qual ++ "<lambda>" = lamQ) (hg : Gl X "_law_ask") (hr : Room (k + 2) X.A) (L : LamD X.env.scope scope a X.N) (hdef : defaultsOf params X.env = ([eval (.Constant (.int z) j p0) X.env], [])) (hkw : params.kwonlyargs = [])
    (binds : ∀ (q : Str) (cl : List (Str × Addr)) (pm cv ctv u : Value) (D : Addr) (s2 : Shared), s2.heap.get? D = some (oneTup u) → BindsTo s2 (dlFn q params body scope cl pm cv ctv (.ref D)) ⟨[], []⟩ [(a, u)])
    (hbody : ∀ (A : Around) (outer : List Env) (s : Shared) (H : Hp) (E : XK) (f c' : Addr), Room k (A.deeper (lamEnv X scope s.heap.objs.size f c')) → PE (lamCx X A outer s H E scope f c') body (t E)) :
    PE X (.Call (.Name "_law_ask" p) [.Lambda params body scope lpos] [] pos) (tLam [(tb, lamQ)] (TAsk X.K cs) t) := by
  obtain ⟨g, fd, F, m, b⟩ := T.ask
  obtain ⟨oc, od, kV, doc, pm, an, cdv, ct, osl, rfl, lk, hcd⟩ := F.ex
  exact pe_dlcall hg m F.kp lk hcd b scAsk rfl (.inl rfl) (by rw [hq]; exact gives T hr) T.tab hcode (by rw [hq]; exact List.mem_singleton.mpr rfl) (fun p hp e => by rw [hq]; rw [List.mem_singleton.mp hp]) hr L hdef hkw binds hbody
end
/-- a def that keeps a promise, by its name -/
structure Def (P : Program) (w : World) (K : PySem.W.Frag) (mg : Str → Option Value) (base : Heap) (CX : CXT) (k : Nat) (x : Str) (ps : List Str) (sp : Sp) (f : Addr) (fd : FuncData) : Prop where
  ok : FnOk P w K mg base CX k f fd ps sp
  at_ : mg x = some (.ref f)
  kp : PySem.W.keepIn K (.ref f) = true
  bd : L2.Binds K fd ps []
/-- a method that keeps a promise -/
structure MetD (P : Program) (w : World) (K : PySem.W.Frag) (mg : Str → Option Value) (base : Heap) (CX : CXT) (k : Nat) (C : Addr) (m : Str) (ps : List Str) (sp : Sp) (f : Addr) (fd : FuncData) : Prop where
  ok : FnOk P w K mg base CX k f fd ps sp
  at_ : Meth K C m f
  bd : L2.Binds K fd ps []
/-- a special method -/
structure SpeD (P : Program) (w : World) (K : PySem.W.Frag) (mg : Str → Option Value) (base : Heap) (CX : CXT) (k : Nat) (C : Addr) (m : Str) (sp : Sp) (f : Addr) : Prop where
  ok : FnR P w K mg base CX k f sp
  at_ : PySem.W.findIn K (.ref C) m = some (some (.ref f))
  fn : PySem.W.isFn K (.ref f) = true
theorem Src.at' {H : Hp} {p q : Addr} {cells : List Int} (h : Src H p q cells) : ∃ o, H p = some o := let ⟨_, _, _, _, e, _⟩ := h.ex; ⟨_, e⟩
theorem codeO_lst {c : Addr} {q : Str} (xs : List V) : CodeO c q ≠ .lst xs := fun z => by
  unfold CodeO at z
  cases z
/-- the source and the table, as they stand between the statements -/
structure Gd (tb p q : Addr) (ns : List Int) (G : Hp) : Prop where
  src : Src G p q ns
  tabs : Tabs [(tb, lamQ)] G
theorem Gd.same {tb p q : Addr} {ns : List Int} {G G' : Hp} (g : Gd tb p q ns G) (s : Same G G') : Gd tb p q ns G' := ⟨g.src.on s, g.tabs.ext s⟩
theorem Gd.grown {tb p q : Addr} {ns : List Int} {G G' : Hp} (g : Gd tb p q ns G) (s : ExtN G G') (t : Tabs [(tb, lamQ)] G') : Gd tb p q ns G' := by
  obtain ⟨⟨i, cc, sd, n, h1, h2, h3⟩, h4, h5, h6⟩ := g.src
  exact ⟨⟨⟨i, cc, sd, n, s _ _ h1 (fun _ z => by cases z), h2, h3⟩, s _ _ h4 (fun _ z => by cases z), h5, h6⟩, t⟩
theorem Gd.ex {tb p q : Addr} {ns : List Int} {G G' : Hp} (g : Gd tb p q ns G) (s : Exs [p] G G') (h : Src G' p q ns) : Gd tb p q ns G' := by
  obtain ⟨i, cc, sd, n, h1, _⟩ := g.src.ex
  refine ⟨h, fun r hr => ?_⟩
  obtain ⟨ps, a1, a2, a3⟩ := g.tabs r hr
  refine ⟨ps, Exs.on s (fun z => by rw [List.mem_singleton.mp z, h1] at a1; cases a1) a1, a2, fun pos cv hc => ?_⟩
  obtain ⟨c0, b1, b2⟩ := a3 pos cv hc
  exact ⟨c0, b1, Exs.on s (fun z => by rw [List.mem_singleton.mp z, h1] at b2; exact codeO_lst _ (Option.some.inj b2).symm) b2⟩
theorem Gd.off {tb p q D : Addr} {ns : List Int} {G : Hp} {o : HO} {xs : List V} (g : Gd tb p q ns G) (hD : G D = some (.lst xs)) (n1 : D ≠ p ∧ D ≠ q) : Gd tb p q ns (upd G D o) := by
  refine ⟨g.src.put n1, fun r hr => ?_⟩
  obtain ⟨ps, a1, a2, a3⟩ := g.tabs r hr
  refine ⟨ps, ?_, a2, fun pos cv hc => ?_⟩
  · rw [upd_ne (fun z => by rw [z, hD] at a1; cases a1)]
    exact a1
  · obtain ⟨c0, b1, b2⟩ := a3 pos cv hc
    refine ⟨c0, b1, ?_⟩
    rw [upd_ne (fun z => by rw [z, hD] at b2; exact codeO_lst _ (Option.some.inj b2).symm)]
    exact b2
theorem Gd.fresh {tb p q D : Addr} {ns : List Int} {G : Hp} (g : Gd tb p q ns G) (hD : G D = none) : D ∉ [p] := fun z => by
  rw [List.mem_singleton.mp z] at hD
  obtain ⟨o, ho⟩ := g.src.at'
  rw [hD] at ho
  cases ho
theorem extN_wos {S : List Addr} {G G' : Hp} (e : ExtN G G') : ExtN (wos S G) (wos S G') := fun b o h n => by
  by_cases y : b ∈ S
  · rw [wos_in y] at h
    cases h
  · rw [wos_out y] at h ⊢
    exact e b o h n

abbrev PsI : List Str := ["self", "names", "steps", "layers"]
/-- the errors that may be raised, as asking catches them -/
structure OwnS (K : PySem.W.Frag) (cs : List Value) (CU CD CM CE : Addr) : Prop where
  own : ∀ x, OwnX K (exC CU CD CM CE x)
  exm : ∀ x, PySem.W.exmAny K (.ref (exC CU CD CM CE x)) cs = some true
structure LawT (P : Program) (w : World) (K : PySem.W.Frag) (mg : Str → Option Value) (base : Heap) (C CU CD CM CE c tb : Addr) (cs : List Value) : Prop where
  src : ∃ f fd, Def P w K mg base CX0 1 "_law_source" ["_law_script"] (spSource K) f fd
  draw : ∃ f fd, Def P w K mg base CX0 1 "_law_draw" ["_law_src", "_law_many"] spDraw f fd
  same : ∃ f fd, FnG P w K mg base CX0 1 f fd ["_law_found", "_law_due"] (spSame K) ∧ mg "_law_same" = some (.ref f) ∧ PySem.W.keepIn K (.ref f) = true ∧ L2.Binds K fd ["_law_found", "_law_due"] []
  init : ∃ (f : Addr) (fd : FuncData) (d1 : List Value), FnOk P w K mg base (L2.CX P w) 18 f fd PsI (spInitS K C CU CD CM CE) ∧ Mk K C f ∧ L2.Binds K fd PsI d1 ∧ Vals [.int 1] d1
  tests : ∃ (p g : Addr) (fd : FuncData), FnOk P w K mg base CX0 1 g fd ["self"] (spFldS K C fun _ _ _ _ _ t _ => .int t) ∧ PropOf K C "tests" p g ∧ L2.Binds K fd ["self"] []
  puts : ∃ (p g : Addr) (fd : FuncData), FnOk P w K mg base CX0 1 g fd ["self"] (spFldS K C fun _ _ _ _ _ _ u => .int u) ∧ PropOf K C "puts" p g ∧ L2.Binds K fd ["self"] []
  len_ : ∃ f, SpeD P w K mg base CX0 1 C "__len__" (spFldS K C fun _ _ ds _ _ _ _ => .int (ds.length : Nat)) f
  ask : AskT P w K mg base c tb cs
  own : OwnS K cs CU CD CM CE
  cls : TxS K C
  script : mg "Script" = some (.ref C)
  rng : mg "range" = none
  len : mg "len" = none
  tpl : mg "tuple" = none
abbrev XL (P : Program) (w : World) (K : PySem.W.Frag) (mg : Str → Option Value) (base : Heap) (f c : Addr) (A : Around) (outer : List Env) (s : Shared) (H : Hp) (E : XK) : Cx := (cxOf CX0 P w K mg base NL "law" (defScope sLaw) f (.ref c) A outer s H E).nox
def spLaw (K : PySem.W.Frag) (tb : Addr) : Sp := fun vs H Q _ => ∃ (a : Addr) (ns : List Int), vs = [.ref a] ∧ SqL K H a (ns.map V.int) ∧ ns.length ≤ 63 ∧ H tb = some (.tbl #[]) ∧ ∀ H', Q (.bl true) H'
section
variable {K : PySem.W.Frag} {CU CD CM CE : Addr} {cs : List Value}
theorem asked_sc {Q : VK} {dd : Addr} {H' : Hp} {x : NbE ⊕ (Str × Int)} (O : OwnS K cs CU CD CM CE) (er : ErrD K H' dd (exFl x))
    (q : ∀ (T : Addr) (G : Hp), Same H' G → Dp K G (.ref T) (exT x) → Q (.ref T) G) : askX K cs Q (.ref (exC CU CD CM CE x)) (some dd) H' := by
  have own := O.own x
  have exm := O.exm x
  obtain ⟨fs, e1, e2⟩ := er
  have one : ∀ {C : Addr} {nm fl : Str} {z : PyData}, OwnX K C → PySem.W.exmAny K (.ref C) cs = some true → nm ≠ "DuplicateCode" → FlOk K H' fs [("code", .str nm), (fl, z)] → fl ≠ "code" → fl ∈ VG.exFields → VG.fieldsOf nm = [fl] → SeqAt.shaped (.str nm) = true → (∀ (T : Addr) (G : Hp), Same H' G → Dp K G (.ref T) (.tuple [.str nm, z]) → Q (.ref T) G) → askX K cs Q (.ref C) (some dd) H' := by
    intro C nm fl z own exm _ e2 n1 mf ef ln q
    obtain ⟨v1, l1, d1⟩ := e2.get (f := "code") (d := .str nm) rfl
    obtain ⟨v2, l2, d2⟩ := e2.get (f := fl) (d := z) (by
      show List.lookup fl [("code", PyData.str nm), (fl, z)] = some z
      rw [List.lookup_cons, show (fl == ("code" : Str)) = false from by simpa using n1, List.lookup_cons, beq_self_eq_true])
    cases d1
    refine ⟨exm, nm, fs, [v2], ⟨⟨C, dd, rfl, own, rfl, e1⟩, l1, ln⟩, ?_, by show 1 ≤ 1000; decide, fun T G sm ht => q T G sm (.tup ht (.cons (.str _) (.cons (Dp.same sm z v2 d2) .nil)))⟩
    rw [ef]
    show [fs.lookup fl] = [some v2]
    rw [l2]
  have many : ∀ {C : Addr} {z : Str} {n : Int}, OwnX K C → PySem.W.exmAny K (.ref C) cs = some true → FlOk K H' fs (manyE z n) → (∀ (T : Addr) (G : Hp), Same H' G → Dp K G (.ref T) (.tuple [.str "TooMany", .str z, .int n]) → Q (.ref T) G) → askX K cs Q (.ref C) (some dd) H' := by
    intro C z n own exm e2 q
    obtain ⟨v1, l1, d1⟩ := e2.get (f := "code") (d := .str "TooMany") rfl
    obtain ⟨v2, l2, d2⟩ := e2.get (f := "subject") (d := .str z) rfl
    obtain ⟨v3, l3, d3⟩ := e2.get (f := "most") (d := .int n) rfl
    cases d1
    refine ⟨exm, "TooMany", fs, [v2, v3], ⟨⟨C, dd, rfl, own, rfl, e1⟩, l1, by decide +kernel⟩, ?_, by show 2 ≤ 1000; decide, fun T G sm ht => q T G sm (.tup ht (.cons (.str _) (.cons (Dp.same sm _ v2 d2) (.cons (Dp.same sm _ v3 d3) .nil))))⟩
    have e : VG.fieldsOf "TooMany" = [("subject" : Str), "most"] := by decide +kernel
    rw [e]
    show [fs.lookup ("subject" : Str), fs.lookup ("most" : Str)] = [some v2, some v3]
    rw [l2, l3]
  match x, own, exm, e2, q with
  | .inl (.unknown z), own, exm, e2, q => exact one (nm := "UnknownName") (fl := "name") own exm (by decide +kernel) e2 (by decide +kernel) (by decide +kernel) (by decide +kernel) (by decide +kernel) q
  | .inl (.dup z), own, exm, e2, q => exact one (nm := "DuplicateName") (fl := "name") own exm (by decide +kernel) e2 (by decide +kernel) (by decide +kernel) (by decide +kernel) (by decide +kernel) q
  | .inl .many, own, exm, e2, q => exact many own exm e2 q
  | .inl (.ends ps), own, exm, e2, q => exact one (nm := "UnlikeEnds") (fl := "path") own exm (by decide +kernel) e2 (by decide +kernel) (by decide +kernel) (by decide +kernel) (by decide +kernel) q
  | .inr (z, n), own, exm, e2, q => exact many own exm e2 q
end
end Lw

set_option maxRecDepth 100000
set_option linter.unusedVariables false
set_option maxHeartbeats 2000000
namespace Lw
open PySem PySem.Spec PyProof.Rows L2 VG LamX
/-! what is made in the law's turn -/
section
variable {K : PySem.W.Frag} {G : Hp} {p q : Addr} {cells : List Int}
theorem Src.same {H H' : Hp} {p q : Addr} {cells : List Int} (h : Src H p q cells) (e : Same H H') : Src H' p q cells := by
  obtain ⟨i, c, sd, n, e1, a, b⟩ := h.ex
  exact ⟨⟨i, c, sd, n, e _ _ e1, a, b⟩, e _ _ h.cs, h.few, h.ne⟩
/-- t + u of data -/
theorem cat_at {G : Hp} {p q : Addr} {cells : List Int} {x y : V} {ds es : List PyData} {Q : VK} (S : Src G p q cells) (hx : Dp K (wos [p] G) x (.tuple ds)) (hy : Dp K (wos [p] G) y (.tuple es)) (lz : ds.length + es.length ≤ 1000)
    (k : ∀ (z : V) (G' : Hp), Dp K (wos [p] G') z (.tuple (ds ++ es)) → Src G' p q cells → Same G G' → Q z G') : rCatA K x y G Q := by
  obtain ⟨a, xs, rfl, hs, hd⟩ := dp_tup hx
  obtain ⟨b, ys, rfl, ht, he⟩ := dp_tup hy
  have l1 := DpAll.len hd
  have l2 := DpAll.len he
  refine ⟨a, b, xs, ys, rfl, rfl, Same.tup wos_sub hs, Same.tup wos_sub ht, ?_, fun z => k _ _ ?_ S (Same.refl G), fun _ z => k _ _ ?_ S (Same.refl G), fun _ _ T hT => k _ _ ?_ (S.put (S.out hT)) (same_upd hT)⟩
  · exact Nat.le_trans (show xs.length + ys.length ≤ 1000 by omega) (by decide)
  · subst z
    cases hd
    exact hy
  · subst z
    cases he
    rw [List.append_nil]
    exact hx
  · exact Dp.tupN hT (fresh_out (fun b z => let ⟨ys, hy⟩ := S.lsts b z; ⟨_, hy⟩) hT) (DpAll.app hd he)
theorem tup_new {T : Addr} {xs : List V} {ds : List PyData} (S : Src G p q cells) (hT : G T = none) (h : DpAll K (wos [p] G) xs ds) : Dp K (wos [p] (upd G T (.tup xs))) (.ref T) (.tuple ds) :=
  .tup (SqT.of (by rw [wos_out (fun m => (S.out hT).1 (List.mem_singleton.mp m))]; exact upd_same)) (DpAll.same (Exs.of (same_upd hT)) _ _ h)
theorem src_new {T : Addr} {o : HO} (S : Src G p q cells) (hT : G T = none) : Src (upd G T o) p q cells := S.put (S.out hT)
theorem rep_at {x : V} {d : PyData} {m : Nat} {Q : VK} (S : Src G p q cells) (hx : Dp K (wos [p] G) x (.tuple [d])) (hm : m ≤ 1000)
    (k : ∀ (z : V) (G' : Hp), Dp K (wos [p] G') z (.tuple (List.replicate m d)) → Src G' p q cells → Same G G' → Q z G') : rRepA K x (.int (m : Nat)) G Q := by
  obtain ⟨a, xs, rfl, hs, hd⟩ := dp_tup hx
  cases hd with
  | cons hv t =>
  cases t
  refine ⟨a, m, _, rfl, rfl, Same.tup wos_sub hs, by simp, by omega, by omega, by show 1 ≤ 1000; decide, fun e => ?_, fun e T hT => ?_⟩
  · obtain rfl : m = 1 := by omega
    exact k _ _ hx S (Same.refl G)
  · refine k _ _ (tup_new S hT ?_) (src_new S hT) (same_upd hT)
    have e1 : ∀ (n : Nat) (v : V), (List.replicate n [v]).flatten = List.replicate n v := fun n v => by
      induction n with
      | zero => rfl
      | succ n ih => rw [List.replicate_succ, List.flatten_cons, ih]; rfl
    rw [Int.toNat_natCast, e1]
    clear e k
    induction m with
    | zero => exact .nil
    | succ m ih => exact .cons hv (ih (by omega))
theorem last_at {H : Hp} {y : V} {m : Nat} {d : PyData} {u : Str} {b : Int} {ds : List PyData} (h : Dp K H y (.tuple (List.replicate m d ++ [.tuple [.str u, .int b, .tuple ds]]))) :
    ∃ (T : Addr) (xs : List V) (T2 W : Addr) (ws : List V), y = .ref T ∧ SqT K H T xs ∧ xs.length = m + 1 ∧ atI xs (m : Nat) = some (.ref T2) ∧ SqT K H T2 [.str u, .int b, .ref W] ∧ SqT K H W ws ∧ ws.length = ds.length := by
  obtain ⟨T, xs, rfl, hT, hd⟩ := dp_tup h
  have lx := DpAll.len hd
  rw [List.length_append, List.length_replicate] at lx
  have lx : xs.length = m + 1 := lx
  have hm : m < xs.length := by omega
  obtain ⟨e, he, hv⟩ := DpAll.at' hd (List.getElem?_eq_getElem hm)
  rw [List.getElem?_append_right (by rw [List.length_replicate]; omega), List.length_replicate, Nat.sub_self] at he
  cases he
  obtain ⟨T2, x2, e2, h2, hd2⟩ := dp_tup hv
  cases hd2 with
  | cons a1 t =>
  cases t with
  | cons a2 t =>
  cases t with
  | cons a3 t =>
  cases t
  cases a1
  cases a2
  obtain ⟨W, ws, rfl, hW, hdw⟩ := dp_tup a3
  refine ⟨T, xs, T2, W, ws, rfl, hT, lx, ?_, h2, hW, DpAll.len hdw⟩
  rw [← e2]
  exact atI_nat (List.getElem?_eq_getElem hm)
/-- what asking gives -/
def askD (zs : List Str) (ds : List PyData) (n : PyData) : PyData := match scR zs ds with
  | some x => exT x
  | none => .tuple [.str "", n]
theorem askD_ok {zs : List Str} {ds : List PyData} {n : PyData} (h : scR zs ds = none) : askD zs ds n = .tuple [.str "", n] := by
  unfold askD
  rw [h]
theorem askD_no {zs : List Str} {ds : List PyData} {n : PyData} {x : NbE ⊕ (Str × Int)} (h : scR zs ds = some x) : askD zs ds n = exT x := by
  unfold askD
  rw [h]
theorem sm_tup {ds : List PyData} (h : ∀ d ∈ ds, Smk 0 12 d) (l : ds.length ≤ 3) : Smk 1 39 (.tuple ds) := smk_tup (k := 0) (m := 12) (n := 3) h l
theorem smS {z : Str} (h : PyData.strOk z = true ∧ z.cps.size ≤ 12 := by decide +kernel) : Smk 0 12 (.str z) := smk_str h.1 h.2
theorem smI {i : Int} (h : i.natAbs ≤ 1000) : Smk 0 12 (.int i) := (smk_int (Nat.lt_of_le_of_lt h (by decide))).up (Nat.le_refl _) (by decide)
theorem all2 {P : PyData → Prop} {a b : PyData} (h1 : P a) (h2 : P b) : ∀ d ∈ [a, b], P d := fun d hd => by
  rcases List.mem_cons.mp hd with rfl | hd
  · exact h1
  · rw [List.mem_singleton.mp hd]
    exact h2
theorem all3 {P : PyData → Prop} {a b c : PyData} (h1 : P a) (h2 : P b) (h3 : P c) : ∀ d ∈ [a, b, c], P d := fun d hd => by
  rcases List.mem_cons.mp hd with rfl | hd
  · exact h1
  · exact all2 h2 h3 d hd
def due1 (n : Nat) : PyData := if 0 < n then .tuple [.str "UnknownName", .str "zz"] else .tuple [.str "", .int 1]
def due2 (n : Nat) : PyData := if 3 < n then .tuple [.str "TooMany", .str "tests", .int 3] else due1 n
def due3 (n : Nat) : PyData := if 12 < n + 1 then .tuple [.str "TooMany", .str "steps", .int 12] else due2 n
theorem due_ok {m r : Nat} {b : Nat} (hm : m < 5) (b1 : 1 ≤ b) (b3 : b ≤ 3) (hr : r ≤ 2) : askD ["a"] (testsD m (b : Int) r) (.int ((testsD m (b : Int) r).length : Nat)) = due3 (m + b * r) ∧ Sm (due3 (m + b * r)) := by
  have e := tests_sc hm b1 b3 hr
  unfold due3 due2 due1
  by_cases c1 : 12 < m + b * r + 1
  · rw [if_pos c1] at e ⊢
    exact ⟨askD_no e, (sm_tup (all3 smS smS (smI (by decide))) (by simp)).Sm⟩
  rw [if_neg c1] at e ⊢
  by_cases c2 : 3 < m + b * r
  · rw [if_pos c2] at e ⊢
    exact ⟨askD_no e, (sm_tup (all3 smS smS (smI (by decide))) (by simp)).Sm⟩
  rw [if_neg c2] at e ⊢
  by_cases c3 : 0 < m + b * r
  · rw [if_pos c3] at e ⊢
    exact ⟨askD_no e, (sm_tup (all2 smS smS) (by simp)).Sm⟩
  rw [if_neg c3] at e ⊢
  refine ⟨?_, (sm_tup (all2 smS (smI (by decide))) (by simp)).Sm⟩
  have m0 : m = 0 := by omega
  subst m0
  rw [askD_ok e]
  rfl
def asksD : List PyData := [.tuple [.str "TooMany", .str "puts", .int 3], .tuple [.str "UnknownName", .str "zz"], .tuple [.str "", .int 3], .tuple [.str "TooMany", .str "puts", .int 3], .tuple [.str "TooMany", .str "puts", .int 3], .tuple [.str "", .int 3]]
theorem asks_sm : Sm (.list asksD) := by
  refine (smk_list (k := 1) (m := 39) (n := 6) (fun d hd => ?_) (by decide)).Sm
  simp only [asksD, List.mem_cons, List.not_mem_nil, or_false] at hd
  rcases hd with rfl | rfl | rfl | rfl | rfl | rfl
  · exact sm_tup (all3 smS smS (smI (by decide))) (by simp)
  · exact sm_tup (all2 smS smS) (by simp)
  · exact sm_tup (all2 smS (smI (by decide))) (by simp)
  · exact sm_tup (all3 smS smS (smI (by decide))) (by simp)
  · exact sm_tup (all3 smS smS (smI (by decide))) (by simp)
  · exact sm_tup (all2 smS (smI (by decide))) (by simp)
theorem tupN {H : Hp} {T : Addr} {xs : List V} {ds : List PyData} (hT : H T = none) (h : DpAll K H xs ds) : Dp K (upd H T (.tup xs)) (.ref T) (.tuple ds) := .tup (SqT.of upd_same) (DpAll.same (same_upd hT) _ _ h)
theorem dpAll_take {H : Hp} : ∀ {xs : List V} {ds : List PyData} (n : Nat), DpAll K H xs ds → DpAll K H (xs.take n) (ds.take n)
  | _, _, 0, _ => .nil
  | [], [], _ + 1, .nil => .nil
  | _ :: _, _ :: _, n + 1, .cons a t => .cons a (dpAll_take n t)
theorem dpAll_drop {H : Hp} : ∀ {xs : List V} {ds : List PyData} (n : Nat), DpAll K H xs ds → DpAll K H (xs.drop n) (ds.drop n)
  | _, _, 0, h => h
  | [], [], _ + 1, .nil => .nil
  | _ :: _, _ :: _, n + 1, .cons _ t => dpAll_drop n t
theorem cutV_drop (xs : List V) (n : Nat) : cutV xs (some (n : Int)) none = xs.drop n := by
  unfold cutV
  rw [HT.sIx_nat, HT.sIx_none]
  by_cases h : n ≤ xs.length
  · rw [Nat.min_eq_left h, List.take_of_length_le (by rw [List.length_drop]; omega)]
  · rw [Nat.min_eq_right (by omega), List.drop_eq_nil_of_le (Nat.le_refl _), List.drop_eq_nil_of_le (by omega)]
    simp
/-- what stands while the end asks -/
structure Bz (K : PySem.W.Frag) (tb p q : Addr) (ns : List Int) (Ll Lp : Addr) (G : Hp) : Prop where
  gd : Gd tb p q ns G
  hl : Dp K G (.ref Ll) (.list lateD)
  hp : Dp K G (.ref Lp) (.list putsD)
theorem Bz.same {tb Ll Lp : Addr} {ns : List Int} {H H' : Hp} (s : Same H H') (b : Bz K tb p q ns Ll Lp H) : Bz K tb p q ns Ll Lp H' := ⟨b.gd.same s, Dp.same s _ _ b.hl, Dp.same s _ _ b.hp⟩
theorem Bz.grown {tb Ll Lp : Addr} {ns : List Int} {H H' : Hp} (x : ExtN H H') (t : Tabs [(tb, lamQ)] H') (b : Bz K tb p q ns Ll Lp H) : Bz K tb p q ns Ll Lp H' := ⟨b.gd.grown x t, Dp.grown x b.hl, Dp.grown x b.hp⟩
theorem srt_a : Srt ["a"] := List.pairwise_singleton _ _
theorem ask_made {C CU CD CM CE : Addr} {cs : List Value} {H : Hp} {x dx N : Addr} {y : V} {ds : List PyData} {R : Hp → Prop} {Q : VK} (n : PyData) (O : OwnS K cs CU CD CM CE) (hx : H x = none) (hdx : H dx = none) (hN : SqL K H N [.str "a"]) (hy : Dp K H y (.tuple ds)) (ok : DsL 1 3 ds) (l16 : ds.length ≤ 16)
    (q : ∀ (TA : Addr) (G3 : Hp), Same H G3 → Dp K G3 (.ref TA) (askD ["a"] ds n) → Q (.ref TA) G3)
    (r : (∀ (TA : Addr) (G3 : Hp), Same H G3 → Dp K G3 (.ref TA) (askD ["a"] ds n) → Q (.ref TA) G3) → scR ["a"] ds = none → ∀ (os es ws : List Str) (H' : Hp), Same H H' → ScAt K C H' x os es ds (joined ws) 1 (cwD "if" 3 ds) (cwD "place" 3 ds) → R H') :
    spInitS K C CU CD CM CE [.ref x, .ref N, y, .int 1] (st0 H C x dx) (fun v H3 => v = .non ∧ R H3) (askX K cs Q) := by
  have I : ScIn K H N y ["a"] ds 1 := ⟨.inl hN, by simp, fun z hz => by rw [List.mem_singleton.mp hz]; exact nm_a, by decide, .inl rfl, hy, ok, l16⟩
  refine madeSc (l := 1) hx hdx I (ScQ.of srt_a (fun e he dd H' s er => asked_sc O er fun TA G s2 ht => q TA G (s.trans s2) ?_) fun hn os es ws H' s _ _ at_ => r q hn os es ws H' s at_)
  rw [askD_no he]
  exact ht
end
end Lw

set_option maxRecDepth 100000
set_option linter.unusedVariables false
set_option maxHeartbeats 4000000
namespace Lw
open PySem PySem.Spec PyProof.Rows L2 VG LamX
section
variable {P : Program} {w : World} {K : PySem.W.Frag} {mg : Str → Option Value} {base : Heap}
theorem ok_law {f C CU CD CM CE c tb : Addr} {fd : FuncData} {cs : List Value} (F : Fun K "law" "law" sLaw f fd) (hc : fd.code = .ref c) (T : LawT P w K mg base C CU CD CM CE c tb cs) : FnG P w K mg base CX0 23 f fd ["_law_script_z"] (spLaw K tb) := by
  obtain ⟨fS, dS, GS⟩ := T.src
  obtain ⟨fD, dD, GD⟩ := T.draw
  obtain ⟨fE, dE, GE, mE, kE, bE⟩ := T.same
  obtain ⟨fI, dI, d1, GI, MI, bI, vI⟩ := T.init
  obtain ⟨pT, gT, dT, GT, PT_, bT⟩ := T.tests
  obtain ⟨pU, gU, dU, GU, PU, bU⟩ := T.puts
  obtain ⟨fLn, GLn⟩ := T.len_
  refine okGC F scLaw hc (fun vs H Q E h => ?_) (fun A outer s H vs Q E hG hr h => ?_)
  · obtain ⟨a, ns, rfl, _⟩ := h
    rfl
  · obtain ⟨a, ns, rfl, hS, hlen, htb, k⟩ := h
    have nd := scLaw.nd
    have hun := hr.units
    have hr1 : Room 1 _ := hr.mono (by decide)
    have hr2 : Room 2 _ := hr.mono (by decide)
    refine ⟨_, (pss_cons (ps_set (i := 1) nd rfl (by first | exact Or.inl rfl | exact Or.inr rfl) (pe_call GS.ok hr1 (by rfl) GS.at_ GS.kp GS.bd .nil pass0 (pa_cons (pv 0) pa_nil)))
      (C8.pss_cut (ps_for PassesOwn.never rfl (pi_range1 (by rfl) T.rng (pa_cons pe_int pa_nil)) (pg_name (i := 2) nd rfl (by first | exact Or.inl rfl | exact Or.inr rfl))
        (C8.pss_cut (ps_par (i := 3) (j := 4) (by rfl) nd rfl rfl (by decide) rfl rfl (pa_cons (pe_call GD.ok hr1 (by rfl) GD.at_ GD.kp GD.bd .nil pass0 (pa_cons (pv 1) (pa_cons pe_int pa_nil))) (pa_cons (pe_op op_add pe_int (pe_call GD.ok hr1 (by rfl) GD.at_ GD.kp GD.bd .nil pass0 (pa_cons (pv 1) (pa_cons pe_int pa_nil)))) pa_nil)) (by rfl))
      (C8.pss_cut (ps_set (i := 13) nd rfl (by first | exact Or.inl rfl | exact Or.inr rfl) (pe_op (show OpR _ _ (rCatA K) from op_catA) (pe_op (show OpR _ _ (rRepA K) from op_repA) (pe_tup (pa_cons (pe_tup (pa_cons pe_str pa_nil)) pa_nil)) (pv 3)) (pe_tup (pa_cons (pe_tup (pa_cons pe_str (pa_cons (pv 4) (pa_cons (pe_op (show OpR _ _ (rRepA K) from op_repA) (pe_tup (pa_cons (pe_tup (pa_cons pe_str pa_nil)) pa_nil)) (pe_call GD.ok hr1 (by rfl) GD.at_ GD.kp GD.bd .nil pass0 (pa_cons (pv 1) (pa_cons pe_int pa_nil)))) pa_nil)))) pa_nil))))
      (C8.pss_cut (ps_set (i := 5) nd rfl (by first | exact Or.inl rfl | exact Or.inr rfl) (pe_op op_add (pe_op op_add (pv 3) pe_int) (pe_op op_mul (pv 4) (pe_callB call_len_seq (by rfl) T.len PySem.boot_len (pa_cons (pe_ix (show IxR _ (rIxT K) from ix_tup) (pe_ix (show IxR _ (rIxT K) from ix_tup) (pv 13) (pv 3) fun _ _ => rfl) pe_int fun _ _ => rfl) pa_nil)))))
      (C8.pss_cut (ps_set (i := 6) nd rfl (by first | exact Or.inl rfl | exact Or.inr rfl) (pe_ifExp (pt_cmpR op_le (pv 5) pe_int (by with_unfolding_all rfl)) (pe_tup (pa_cons pe_str (pa_cons (pe_op op_add (pv 3) pe_int) pa_nil))) (pe_tup (pa_cons pe_str (pa_cons pe_str (pa_cons pe_int pa_nil))))))
      (C8.pss_cut (ps_if (pt_not (pt_val (pe_callG GE hG hr1 (by rfl) mE kE bE .nil pass0 (pa_cons (pe_ask (X := XL P w K mg base f c A outer s H E) (k := 20) (t := fun E => tCB (rLenO C (spFldS K C fun _ _ ds _ _ _ _ => .int (ds.length : Nat)) E0) (tCons (tMake C (spInitS K C CU CD CM CE) [.int 1] E (tCons (tLst (tCons (tC (.str "a")) (tNil))) (tCons (tVar 13) tNil))) tNil)) T.ask rfl (by rfl) (by rfl) hr (lamS_by (sc := defScope sLaw) (by decide +kernel)) rfl (fun _ _ _ _ _ => rfl)
              (fun A2 outer2 s2 H2 E2 f2 c2 hr2 => (pe_callB (call_lenO (E := E0) GLn.at_ GLn.fn GLn.ok (hr2.mono (by decide)) pass0) (by rfl) T.len PySem.boot_len (pa_cons (pe_make (E := E2) MI GI (hr2.mono (by decide)) (by rfl) T.script bI vI lam_passes (pa_cons (pe_lst (pa_cons pe_str pa_nil)) (pa_cons (pv 13) pa_nil))) pa_nil)))) (pa_cons (pv 6) pa_nil))))) (pss_one (ps_ret pe_bl)) pss_nil)
      (C8.pss_cut (ps_set (i := 7) nd rfl (by first | exact Or.inl rfl | exact Or.inr rfl) (pe_tup (pa_cons pe_str (pa_cons pe_str (pa_cons pe_str (pa_cons pe_str (pa_cons pe_int (pa_cons (pe_tup pa_nil) (pa_cons (pe_tup pa_nil) pa_nil)))))))))
      (C8.pss_cut (ps_set (i := 14) nd rfl (by first | exact Or.inl rfl | exact Or.inr rfl) (pe_op (show OpR _ _ (rCatA K) from op_catA) (pe_op (show OpR _ _ (rRepA K) from op_repA) (pe_tup (pa_cons (pv 7) pa_nil)) (pe_call GD.ok hr1 (by rfl) GD.at_ GD.kp GD.bd .nil pass0 (pa_cons (pv 1) (pa_cons pe_int pa_nil)))) (pe_tup (pa_cons (pe_tup (pa_cons pe_str (pa_cons (pv 4) (pa_cons (pe_op (show OpR _ _ (rRepA K) from op_repA) (pe_tup (pa_cons (pv 7) pa_nil)) (pe_call GD.ok hr1 (by rfl) GD.at_ GD.kp GD.bd .nil pass0 (pa_cons (pv 1) (pa_cons pe_int pa_nil)))) pa_nil)))) pa_nil))))
      (C8.pss_cut (ps_set (i := 8) nd rfl (by first | exact Or.inl rfl | exact Or.inr rfl) (pe_op op_add (pe_op op_sub (pe_callB call_len_seq (by rfl) T.len PySem.boot_len (pa_cons (pv 14) pa_nil)) pe_int) (pe_op op_mul (pv 4) (pe_callB call_len_seq (by rfl) T.len PySem.boot_len (pa_cons (pe_ix (show IxR _ (rIxT K) from ix_tup) (pe_ix (show IxR _ (rIxT K) from ix_tup) (pv 14) (pe_op op_sub (pe_callB call_len_seq (by rfl) T.len PySem.boot_len (pa_cons (pv 14) pa_nil)) pe_int) fun _ _ => rfl) pe_int fun _ _ => rfl) pa_nil)))))
      (C8.pss_cut (ps_set (i := 6) nd rfl (by first | exact Or.inl rfl | exact Or.inr rfl) (pe_ifExp (pt_cmpR op_gt (pv 8) pe_int (by with_unfolding_all rfl)) (pe_tup (pa_cons pe_str (pa_cons pe_str pa_nil))) (pe_tup (pa_cons pe_str (pa_cons pe_int pa_nil)))))
      (C8.pss_cut (ps_set (i := 6) nd rfl (by first | exact Or.inl rfl | exact Or.inr rfl) (pe_ifExp (pt_cmpR op_gt (pv 8) pe_int (by with_unfolding_all rfl)) (pe_tup (pa_cons pe_str (pa_cons pe_str (pa_cons pe_int pa_nil)))) (pv 6)))
      (C8.pss_cut (ps_set (i := 6) nd rfl (by first | exact Or.inl rfl | exact Or.inr rfl) (pe_ifExp (pt_cmpR op_gt (pe_op op_add (pv 8) pe_int) pe_int (by with_unfolding_all rfl)) (pe_tup (pa_cons pe_str (pa_cons pe_str (pa_cons pe_int pa_nil)))) (pv 6)))
      (pss_one (ps_if (pt_not (pt_val (pe_callG GE hG hr1 (by rfl) mE kE bE .nil pass0 (pa_cons (pe_ask (X := XL P w K mg base f c A outer s H E) (k := 20) (t := fun E => tCB (rLenO C (spFldS K C fun _ _ ds _ _ _ _ => .int (ds.length : Nat)) E0) (tCons (tMake C (spInitS K C CU CD CM CE) [.int 1] E (tCons (tLst (tCons (tC (.str "a")) (tNil))) (tCons (tVar 14) tNil))) tNil)) T.ask rfl (by rfl) (by rfl) hr (lamS_by (sc := defScope sLaw) (by decide +kernel)) rfl (fun _ _ _ _ _ => rfl)
              (fun A2 outer2 s2 H2 E2 f2 c2 hr2 => (pe_callB (call_lenO (E := E0) GLn.at_ GLn.fn GLn.ok (hr2.mono (by decide)) pass0) (by rfl) T.len PySem.boot_len (pa_cons (pe_make (E := E2) MI GI (hr2.mono (by decide)) (by rfl) T.script bI vI lam_passes (pa_cons (pe_lst (pa_cons pe_str pa_nil)) (pa_cons (pv 14) pa_nil))) pa_nil)))) (pa_cons (pv 6) pa_nil))))) (pss_one (ps_ret pe_bl)) pss_nil))))))))))))))
      (C8.pss_cut (ps_set (i := 12) nd rfl (by first | exact Or.inl rfl | exact Or.inr rfl) (pe_lc (own := [("_law_name", 9)]) (g := gName 9) (tt := tYes) rfl nd (pi_list (pe_lst (pa_cons pe_str (pa_cons pe_str (pa_cons pe_str (pa_cons pe_str pa_nil)))))) (blkOk_by (own := [("_law_name", 9)]) (N := NL) (sc := defScope sLaw) (by decide +kernel)) (fun _ _ _ _ _ => (pg_name (i := 9) nd rfl (by first | exact Or.inl rfl | exact Or.inr rfl))) (fun _ _ _ _ _ => pts_nil)
          (fun _ _ _ _ _ => (pe_tup (pa_cons pe_str (pa_cons (pv 9) (pa_cons pe_str (pa_cons pe_int (pa_cons pe_int pa_nil)))))))))
      (C8.pss_cut (ps_set (i := 11) nd rfl (by first | exact Or.inl rfl | exact Or.inr rfl) (pe_lst (pa_cons (pe_tup (pa_cons pe_str (pa_cons pe_str (pa_cons pe_str (pa_cons pe_int (pa_cons pe_int pa_nil)))))) (pa_cons (pe_tup (pa_cons pe_str (pa_cons pe_str pa_nil))) pa_nil))))
      (C8.pss_cut (ps_set (i := 10) nd rfl (by first | exact Or.inl rfl | exact Or.inr rfl) (pe_lst (pa_cons (pe_ask (X := XL P w K mg base f c A outer s H E) (k := 20) (t := fun E => tMake C (spInitS K C CU CD CM CE) [.int 1] E (tCons (tLst (tCons (tC (.str "a")) (tNil))) (tCons (tCB (rTupOf K) (tCons (tVar 12) tNil)) tNil))) T.ask rfl (by rfl) (by rfl) hr (lamS_by (sc := defScope sLaw) (by decide +kernel)) rfl (fun _ _ _ _ _ => rfl)
              (fun A2 outer2 s2 H2 E2 f2 c2 hr2 => (pe_make (E := E2) MI GI (hr2.mono (by decide)) (by rfl) T.script bI vI lam_passes (pa_cons (pe_lst (pa_cons pe_str pa_nil)) (pa_cons (pe_callTy (show CallR _ (.type "tuple") (rTupOf K) from call_tupleK) (by rfl) T.tpl (by decide +kernel) (pa_cons (pv 12) pa_nil)) pa_nil))))) (pa_cons (pe_ask0 (X := XL P w K mg base f c A outer s H E) (k := 20) (a := "_law_b") (z := 0) (t := fun E => tMake C (spInitS K C CU CD CM CE) [.int 1] E (tCons (tLst (tCons (tC (.str "a")) (tNil))) (tCons (tCB (rTupOf K) (tCons (tSl (rSlL K) (tVar 12) (tNoPart) (tPart (tC (.int 3)))) tNil)) tNil))) T.ask rfl (by rfl) (by rfl) hr (lamD_by (sc := defScope sLaw) (N := NL) (by decide +kernel)) rfl rfl (fun q cl pm cv ctv u D s2 hD => .of_defaults (T := D) rfl hD rfl rfl rfl)
              (fun A2 outer2 s2 H2 E2 f2 c2 hr2 => (pe_make (E := E2) MI GI (hr2.mono (by decide)) (by rfl) T.script bI vI lam_passes (pa_cons (pe_lst (pa_cons pe_str pa_nil)) (pa_cons (pe_callTy (show CallR _ (.type "tuple") (rTupOf K) from call_tupleK) (by rfl) T.tpl (by decide +kernel) (pa_cons (pe_slice (show SlR _ (rSlL K) from sl_list) (pv 12) po_none (po_some pe_int)) pa_nil)) pa_nil))))) (pa_cons (pe_ask0 (X := XL P w K mg base f c A outer s H E) (k := 20) (a := "_law_c") (z := 0) (t := fun E => tProp C (spFldS K C fun _ _ _ _ _ t u => .int u) [] E0 (tMake C (spInitS K C CU CD CM CE) [.int 1] E (tCons (tLst (tCons (tC (.str "a")) (tNil))) (tCons (tTup (tCons (tTup (tCons (tC (.str "repeat")) (tCons (tC (.int 3)) (tCons (tCB (rTupOf K) (tCons (tVar 11) tNil)) (tNil))))) (tNil))) tNil)))) T.ask rfl (by rfl) (by rfl) hr (lamD_by (sc := defScope sLaw) (N := NL) (by decide +kernel)) rfl rfl (fun q cl pm cv ctv u D s2 hD => .of_defaults (T := D) rfl hD rfl rfl rfl)
              (fun A2 outer2 s2 H2 E2 f2 c2 hr2 => (pe_prop (E := E0) (pe_make (E := E2) MI GI (hr2.mono (by decide)) (by rfl) T.script bI vI lam_passes (pa_cons (pe_lst (pa_cons pe_str pa_nil)) (pa_cons (pe_tup (pa_cons (pe_tup (pa_cons pe_str (pa_cons pe_int (pa_cons (pe_callTy (show CallR _ (.type "tuple") (rTupOf K) from call_tupleK) (by rfl) T.tpl (by decide +kernel) (pa_cons (pv 11) pa_nil)) pa_nil)))) pa_nil)) pa_nil))) T.cls.cl PU GU (hr2.mono (by decide)) bU .nil pass0 rfl))) (pa_cons (pe_ask0 (X := XL P w K mg base f c A outer s H E) (k := 20) (a := "_law_d") (z := 0) (t := fun E => tMake C (spInitS K C CU CD CM CE) [.int 1] E (tCons (tLst (tCons (tC (.str "a")) (tNil))) (tCons (tTup (tCons (tTup (tCons (tC (.str "repeat")) (tCons (tC (.int 3)) (tCons (tCB (rTupOf K) (tCons (tVar 11) tNil)) (tNil))))) (tCons (tOp (rIxL K) (tVar 11) (tC (.int 0))) (tNil)))) tNil))) T.ask rfl (by rfl) (by rfl) hr (lamD_by (sc := defScope sLaw) (N := NL) (by decide +kernel)) rfl rfl (fun q cl pm cv ctv u D s2 hD => .of_defaults (T := D) rfl hD rfl rfl rfl)
              (fun A2 outer2 s2 H2 E2 f2 c2 hr2 => (pe_make (E := E2) MI GI (hr2.mono (by decide)) (by rfl) T.script bI vI lam_passes (pa_cons (pe_lst (pa_cons pe_str pa_nil)) (pa_cons (pe_tup (pa_cons (pe_tup (pa_cons pe_str (pa_cons pe_int (pa_cons (pe_callTy (show CallR _ (.type "tuple") (rTupOf K) from call_tupleK) (by rfl) T.tpl (by decide +kernel) (pa_cons (pv 11) pa_nil)) pa_nil)))) (pa_cons (pe_ix (show IxR _ (rIxL K) from ix_list) (pv 11) pe_int fun _ _ => rfl) pa_nil))) pa_nil))))) (pa_cons (pe_ask0 (X := XL P w K mg base f c A outer s H E) (k := 20) (a := "_law_e") (z := 0) (t := fun E => tMake C (spInitS K C CU CD CM CE) [.int 1] E (tCons (tLst (tCons (tC (.str "a")) (tNil))) (tCons (tTup (tCons (tTup (tCons (tC (.str "if")) (tCons (tC (.str "foot")) (tCons (tC (.str "a")) (tCons (tC (.str "a")) (tCons (tC (.int 0)) (tCons (tCB (rTupOf K) (tCons (tSl (rSlL K) (tVar 12) (tNoPart) (tPart (tC (.int 2)))) tNil)) (tCons (tCB (rTupOf K) (tCons (tSl (rSlL K) (tVar 12) (tPart (tC (.int 2))) (tNoPart)) tNil)) (tNil))))))))) (tNil))) tNil))) T.ask rfl (by rfl) (by rfl) hr (lamD_by (sc := defScope sLaw) (N := NL) (by decide +kernel)) rfl rfl (fun q cl pm cv ctv u D s2 hD => .of_defaults (T := D) rfl hD rfl rfl rfl)
              (fun A2 outer2 s2 H2 E2 f2 c2 hr2 => (pe_make (E := E2) MI GI (hr2.mono (by decide)) (by rfl) T.script bI vI lam_passes (pa_cons (pe_lst (pa_cons pe_str pa_nil)) (pa_cons (pe_tup (pa_cons (pe_tup (pa_cons pe_str (pa_cons pe_str (pa_cons pe_str (pa_cons pe_str (pa_cons pe_int (pa_cons (pe_callTy (show CallR _ (.type "tuple") (rTupOf K) from call_tupleK) (by rfl) T.tpl (by decide +kernel) (pa_cons (pe_slice (show SlR _ (rSlL K) from sl_list) (pv 12) po_none (po_some pe_int)) pa_nil)) (pa_cons (pe_callTy (show CallR _ (.type "tuple") (rTupOf K) from call_tupleK) (by rfl) T.tpl (by decide +kernel) (pa_cons (pe_slice (show SlR _ (rSlL K) from sl_list) (pv 12) (po_some pe_int) po_none) pa_nil)) pa_nil)))))))) pa_nil)) pa_nil))))) (pa_cons (pe_ask0 (X := XL P w K mg base f c A outer s H E) (k := 20) (a := "_law_f") (z := 0) (t := fun E => tProp C (spFldS K C fun _ _ _ _ _ t u => .int t) [] E0 (tMake C (spInitS K C CU CD CM CE) [.int 1] E (tCons (tLst (tCons (tC (.str "a")) (tNil))) (tCons (tTup (tCons (tTup (tCons (tC (.str "repeat")) (tCons (tC (.int 3)) (tCons (tTup (tCons (tTup (tCons (tC (.str "if")) (tCons (tC (.str "foot")) (tCons (tC (.str "a")) (tCons (tC (.str "a")) (tCons (tC (.int 0)) (tCons (tTup (tCons (tTup (tCons (tC (.str "turn")) (tNil))) (tNil))) (tCons (tTup (tCons (tTup (tCons (tC (.str "turn")) (tNil))) (tNil))) (tNil))))))))) (tNil))) (tNil))))) (tNil))) tNil)))) T.ask rfl (by rfl) (by rfl) hr (lamD_by (sc := defScope sLaw) (N := NL) (by decide +kernel)) rfl rfl (fun q cl pm cv ctv u D s2 hD => .of_defaults (T := D) rfl hD rfl rfl rfl)
              (fun A2 outer2 s2 H2 E2 f2 c2 hr2 => (pe_prop (E := E0) (pe_make (E := E2) MI GI (hr2.mono (by decide)) (by rfl) T.script bI vI lam_passes (pa_cons (pe_lst (pa_cons pe_str pa_nil)) (pa_cons (pe_tup (pa_cons (pe_tup (pa_cons pe_str (pa_cons pe_int (pa_cons (pe_tup (pa_cons (pe_tup (pa_cons pe_str (pa_cons pe_str (pa_cons pe_str (pa_cons pe_str (pa_cons pe_int (pa_cons (pe_tup (pa_cons (pe_tup (pa_cons pe_str pa_nil)) pa_nil)) (pa_cons (pe_tup (pa_cons (pe_tup (pa_cons pe_str pa_nil)) pa_nil)) pa_nil)))))))) pa_nil)) pa_nil)))) pa_nil)) pa_nil))) T.cls.cl PT_ GT (hr2.mono (by decide)) bT .nil pass0 rfl))) pa_nil))))))))
      (pss_one (ps_ret (pe_callG GE hG hr1 (by rfl) mE kE bE .nil pass0 (pa_cons (pv 10) (pa_cons (pe_lst (pa_cons (pe_tup (pa_cons pe_str (pa_cons pe_str (pa_cons pe_int pa_nil)))) (pa_cons (pe_tup (pa_cons pe_str (pa_cons pe_str pa_nil))) (pa_cons (pe_tup (pa_cons pe_str (pa_cons pe_int pa_nil))) (pa_cons (pe_tup (pa_cons pe_str (pa_cons pe_str (pa_cons pe_int pa_nil)))) (pa_cons (pe_tup (pa_cons pe_str (pa_cons pe_str (pa_cons pe_int pa_nil)))) (pa_cons (pe_tup (pa_cons pe_str (pa_cons pe_int pa_nil))) pa_nil))))))) pa_nil)))))))))), ?_⟩
    refine ⟨_, rfl, a, ns, rfl, hS, hlen, fun p q H1 hp0 hq0 sm1 S1 => ?_⟩
    have tb1 : Tabs [(tb, lamQ)] H1 := fun r hr => by
      rw [List.mem_singleton.mp hr]
      exact TabS.nil (sm1 _ _ htb)
    refine ⟨fun σ G => ∃ o2 o3 o4 o5 o6 o7 o8 o9 o10 o11 o12 o13 o14 : Option V, σ = [some (.ref a), some (.ref p), o2, o3, o4, o5, o6, o7, o8, o9, o10, o11, o12, o13, o14] ∧ Gd tb p q ns G, ?_, ?_⟩
    · refine ⟨6, rfl, by decide, by decide, for_range (lo := 0) (n := 6) (fun i σ G => ∃ o2 o3 o4 o5 o6 o7 o8 o9 o10 o11 o12 o13 o14 : Option V, σ = [some (.ref a), some (.ref p), o2, o3, o4, o5, o6, o7, o8, o9, o10, o11, o12, o13, o14] ∧ Gd tb p q ns G)
        ⟨none, none, none, none, none, none, none, none, none, none, none, none, none, rfl, ⟨S1, tb1⟩⟩ ?_ (fun σ G ⟨_, _, _, _, _, _, _, _, _, _, _, _, _, e, g⟩ => ⟨_, _, _, _, _, _, _, _, _, _, _, _, _, e, g⟩)⟩
      clear sm1 tb1 S1 hS hlen htb
      rintro i σ G hi ⟨o2, o3, o4, o5, o6, o7, o8, o9, o10, o11, o12, o13, o14, rfl, g0⟩
      -- many, by
      refine ⟨fun σ G => ∃ (m b : Nat) (o2 o5 o6 o7 o8 o9 o10 o11 o12 o13 o14 : Option V), σ = [some (.ref a), some (.ref p), o2, some (.int (m : Nat)), some (.int (b : Nat)), o5, o6, o7, o8, o9, o10, o11, o12, o13, o14] ∧ m < 14 ∧ 1 ≤ b ∧ b ≤ 3 ∧ Gd tb p q ns G, ?_, ?_⟩
      · refine ⟨_, rfl, p, q, ns, 14, rfl, g0.src, by decide, by decide, fun r1 G1 r10 r11 S1 B1 => ?_⟩
        have g1 := g0.ex (But.exs B1) S1
        refine ⟨_, rfl, p, q, ns, 3, rfl, g1.src, by decide, by decide, fun r2 G2 r20 r21 S2 B2 => ?_⟩
        have g2 := g1.ex (But.exs B2) S2
        obtain ⟨m, rfl⟩ := Int.eq_ofNat_of_zero_le r10
        obtain ⟨b, rfl⟩ := Int.eq_ofNat_of_zero_le r20
        exact ⟨_, _, rfl, rfl, _, _, rfl, m, b + 1, _, _, _, _, _, _, _, _, _, _, _, by rw [show (((b + 1 : Nat)) : Int) = 1 + (b : Int) by omega]; rfl, by omega, by omega, by omega, g2⟩
      clear g0
      rintro σ G ⟨m, b, o2, o5, o6, o7, o8, o9, o10, o11, o12, o13, o14, rfl, hm, b1, b3, g0⟩
      -- the steps
      refine ⟨fun σ G => ∃ (y : V) (r : Nat) (o2 o5 o6 o7 o8 o9 o10 o11 o12 o14 : Option V), σ = [some (.ref a), some (.ref p), o2, some (.int (m : Nat)), some (.int (b : Nat)), o5, o6, o7, o8, o9, o10, o11, o12, some y, o14] ∧ r ≤ 3 ∧ Dp K (wos [p] G) y (.tuple (stepsD m (b : Int) r)) ∧ Gd tb p q ns G, ?_, ?_⟩
      · refine ⟨small_line (by show 1 ≤ 1000; decide), fun U1 hU1 => ⟨small_line (by show 1 ≤ 1000; decide), fun U2 hU2 => ⟨_, rfl, ?_⟩⟩⟩
        have t1 := tup_new (K := K) (xs := [.str "turn"]) (ds := [.str "turn"]) g0.src hU1 (.cons (.str _) .nil)
        have g1 := g0.same (same_upd (o := .tup [.str "turn"]) hU1)
        have t2 := tup_new (K := K) (xs := [.ref U1]) (ds := [turnD]) g1.src hU2 (.cons t1 .nil)
        have g2 := g1.same (same_upd (o := .tup [.ref U1]) hU2)
        refine rep_at g2.src t2 (by omega) fun z1 G3 d3 S3 e3 => ?_
        have g3 := g2.same e3
        refine ⟨_, rfl, small_line (by show 1 ≤ 1000; decide), fun U4 hU4 => ⟨small_line (by show 1 ≤ 1000; decide), fun U5 hU5 => ?_⟩⟩
        have t4 := tup_new (K := K) (xs := [.str "turn"]) (ds := [.str "turn"]) g3.src hU4 (.cons (.str _) .nil)
        have g4 := g3.same (same_upd (o := .tup [.str "turn"]) hU4)
        have t5 := tup_new (K := K) (xs := [.ref U4]) (ds := [turnD]) g4.src hU5 (.cons t4 .nil)
        have g5 := g4.same (same_upd (o := .tup [.ref U4]) hU5)
        have d5 := Dp.same ((Exs.of (S := [p]) (same_upd (o := .tup [.str "turn"]) hU4)).trans (Exs.of (same_upd (o := .tup [.ref U4]) hU5))) _ _ d3
        refine ⟨_, rfl, p, q, ns, 4, rfl, g5.src, by decide, by decide, fun r6 G6 r60 r61 S6 B6 => ?_⟩
        have g6 := g5.ex (But.exs B6) S6
        obtain ⟨r, rfl⟩ := Int.eq_ofNat_of_zero_le r60
        have t6 := Dp.same (But.exs B6) _ _ t5
        have d6 := Dp.same (But.exs B6) _ _ d5
        refine rep_at g6.src t6 (by omega) fun z7 G7 d7 S7 e7 => ?_
        have g7 := g6.same e7
        refine ⟨small_line (by show 3 ≤ 1000; decide), fun U8 hU8 => ⟨small_line (by show 1 ≤ 1000; decide), fun U9 hU9 => ?_⟩⟩
        have t8 := tup_new (K := K) (xs := [.str "repeat", .int (b : Nat), z7]) (ds := [.str "repeat", .int (b : Nat), .tuple (List.replicate r turnD)]) g7.src hU8 (.cons (.str _) (.cons (.int _) (.cons d7 .nil)))
        have g8 := g7.same (same_upd (o := .tup [.str "repeat", .int (b : Nat), z7]) hU8)
        have t9 := tup_new (K := K) (xs := [.ref U8]) (ds := [repT (b : Nat) (List.replicate r turnD)]) g8.src hU9 (.cons t8 .nil)
        have g9 := g8.same (same_upd (o := .tup [.ref U8]) hU9)
        have d9 := Dp.same ((Exs.of (S := [p]) e7).trans ((Exs.of (same_upd (o := .tup [.str "repeat", .int (b : Nat), z7]) hU8)).trans (Exs.of (same_upd (o := .tup [.ref U8]) hU9)))) _ _ d6
        exact cat_at g9.src d9 t9 (by rw [List.length_replicate]; show m + 1 ≤ 1000; omega) fun z10 G10 d10 S10 e10 => ⟨z10, r, _, _, _, _, _, _, _, _, _, _, rfl, by omega, d10, g9.same e10⟩
      clear g0
      rintro σ G ⟨y, r, o2, o5, o6, o7, o8, o9, o10, o11, o12, o14, rfl, hr3, hy, g0⟩
      -- how many they are
      refine ⟨fun σ G => ∃ (n5 : Int) (o2 o6 o7 o8 o9 o10 o11 o12 o14 : Option V), σ = [some (.ref a), some (.ref p), o2, some (.int (m : Nat)), some (.int (b : Nat)), some (.int n5), o6, o7, o8, o9, o10, o11, o12, some y, o14] ∧ n5 = ((m + 1 + b * r : Nat) : Int) ∧ Dp K (wos [p] G) y (.tuple (stepsD m (b : Int) r)) ∧ Gd tb p q ns G, ?_, ?_⟩
      · obtain ⟨Ta, xs, T2, W, ws, rfl, hT, lx, ha, h2, hW, lw⟩ := last_at (Dp.same wos_sub _ _ hy)
        rw [List.length_replicate] at lw
        refine ⟨_, rfl, _, _, rfl, rfl, _, rfl, _, rfl, _, rfl, _, _, _, _, rfl, rfl, hT, ha, _, _, _, _, rfl, rfl, h2, rfl, W, ws, rfl, .inr hW, _, _, rfl, rfl, .inl ⟨by omega, by omega⟩, _, _, rfl, rfl, _, _, _, _, _, _, _, _, _, _, rfl, ?_, hy, g0⟩
        show (m : Int) + 1 + (b : Int) * (ws.length : Int) = _
        rw [lw, show (((m + 1 + b * r : Nat)) : Int) = (m : Int) + 1 + (b : Int) * (r : Int) by push_cast; rfl]
      rintro σ G ⟨n5, o2, o6, o7, o8, o9, o10, o11, o12, o14, rfl, rfl, hy, g0⟩
      -- what must come
      refine ⟨fun σ G => ∃ (x : V) (o2 o5 o7 o8 o9 o10 o11 o12 o14 : Option V), σ = [some (.ref a), some (.ref p), o2, some (.int (m : Nat)), some (.int (b : Nat)), o5, some x, o7, o8, o9, o10, o11, o12, some y, o14] ∧ Dp K (wos [p] G) x (if m + 1 + b * r ≤ 12 then .tuple [.str "", .int ((m + 1 : Nat) : Int)] else .tuple [.str "TooMany", .str "steps", .int 12]) ∧ Dp K (wos [p] G) y (.tuple (stepsD m (b : Int) r)) ∧ Gd tb p q ns G, ?_, ?_⟩
      · refine ⟨_, rfl, _, _, rfl, rfl, _, rfl, ?_⟩
        by_cases c12 : m + 1 + b * r ≤ 12
        · rw [decide_eq_true (show (((m + 1 + b * r : Nat)) : Int) ≤ 12 by omega)]
          refine iteT ⟨_, rfl, _, _, rfl, rfl, small_line (by show 2 ≤ 1000; decide), fun U1 hU1 => ?_⟩
          have mU := same_upd (o := .tup [.str "", .int ((m : Int) + 1)]) hU1
          refine ⟨_, _, _, _, _, _, _, _, _, _, rfl, ?_, Dp.same (Exs.of (S := [p]) mU) _ _ hy, g0.same mU⟩
          rw [if_pos c12]
          exact tup_new g0.src hU1 (.cons (.str _) (.cons (by rw [show (((m + 1 : Nat)) : Int) = (m : Int) + 1 by omega]; exact .int _) .nil))
        · rw [decide_eq_false (show ¬ (((m + 1 + b * r : Nat)) : Int) ≤ 12 by omega)]
          refine iteF ⟨small_line (by show 3 ≤ 1000; decide), fun U1 hU1 => ?_⟩
          have mU := same_upd (o := .tup [.str "TooMany", .str "steps", .int 12]) hU1
          refine ⟨_, _, _, _, _, _, _, _, _, _, rfl, ?_, Dp.same (Exs.of (S := [p]) mU) _ _ hy, g0.same mU⟩
          rw [if_neg c12]
          exact tup_new g0.src hU1 (.cons (.str _) (.cons (.str _) (.cons (.int _) .nil)))
      rintro σ G ⟨x, o2, o5, o7, o8, o9, o10, o11, o12, o14, rfl, hx, hy, g0⟩
      -- asked
      refine ⟨fun σ G => ∃ (o2 o3 o5 o6 o7 o8 o9 o10 o11 o12 o13 o14 : Option V), σ = [some (.ref a), some (.ref p), o2, o3, some (.int (b : Nat)), o5, o6, o7, o8, o9, o10, o11, o12, o13, o14] ∧ Gd tb p q ns G, ?_, ?_⟩
      · refine ⟨g0.tabs, fun H2 x1 t1 => ?_⟩
        have g1 := g0.grown x1 t1
        have hy1 := Dp.grown (extN_wos x1) hy
        have hx1 := Dp.grown (extN_wos x1) hx
        refine ⟨small_line (by show 1 ≤ 1000; decide), fun L hL => ⟨_, rfl, fun o dx ho hdx nx => ?_⟩⟩
        have mL := same_upd (o := .lst [.str "a"]) hL
        have l16 : (stepsD m (b : Int) r).length ≤ 16 := by
          unfold stepsD
          rw [List.length_append, List.length_replicate]
          show m + 1 ≤ 16
          omega
        have esc := steps_sc hm b1 b3 hr3
        have el : (stepsD m (b : Int) r).length = m + 1 := by
          unfold stepsD
          rw [List.length_append, List.length_replicate]
          rfl
        have eq : askD ["a"] (stepsD m (b : Int) r) (.int ((stepsD m (b : Int) r).length : Nat)) = (if m + 1 + b * r ≤ 12 then .tuple [.str "", .int ((m + 1 : Nat) : Int)] else .tuple [.str "TooMany", .str "steps", .int 12]) ∧ Sm (if m + 1 + b * r ≤ 12 then .tuple [.str "", .int ((m + 1 : Nat) : Int)] else .tuple [.str "TooMany", .str "steps", .int 12]) := by
          by_cases c12 : m + 1 + b * r ≤ 12
          · rw [if_pos c12] at esc ⊢
            refine ⟨?_, (sm_tup (all2 smS (smI (by omega))) (by simp)).Sm⟩
            rw [askD_ok esc, el]
          · rw [if_neg c12] at esc ⊢
            exact ⟨askD_no esc, (sm_tup (all3 smS smS (smI (by decide))) (by simp)).Sm⟩
        obtain ⟨eq, smD⟩ := eq
        refine ask_made (.int ((stepsD m (b : Int) r).length : Nat)) T.own ho hdx (SqL.of upd_same) (Dp.same (wos_sub.trans mL) _ _ hy1) (steps_ok (by omega) (by omega) hr3) l16 (fun TA G3 s3 ht => ?_) (fun qq hn os es ws H' s' at_ => ?_)
        · rw [eq] at ht
          refine ⟨_, rfl, .ref TA, x, _, _, rfl, ht, Dp.same (wos_sub.trans (mL.trans s3)) _ _ hx1, smD, smD, _, rfl, ?_⟩
          rw [decide_eq_true rfl]
          exact iteF ⟨_, _, _, _, _, _, _, _, _, _, _, _, rfl, (g1.same mL).same s3⟩
        · obtain ⟨dxo, A1, B1, y1, h1, _⟩ := id at_.ex
          refine ⟨o, dxo, _, rfl, h1, o, os, es, _, _, 1, _, _, rfl, at_, ⟨_, rfl, by rw [el]; exact Nat.lt_of_lt_of_le (show m + 1 < 100 by omega) (by decide)⟩, small_line (by show 2 ≤ 1000; decide), fun T7 hT7 => ?_⟩
          refine qq T7 _ (s'.trans (same_upd hT7)) ?_
          rw [askD_ok hn]
          exact .tup (SqT.of upd_same) (.cons (.str _) (.cons (.int _) .nil))
      clear g0 hx hy
      rintro σ G ⟨o2, o3, o5, o6, o7, o8, o9, o10, o11, o12, o13, o14, rfl, g0⟩
      -- a test
      refine ⟨fun σ G => ∃ (v : V) (o2 o3 o5 o6 o8 o9 o10 o11 o12 o13 o14 : Option V), σ = [some (.ref a), some (.ref p), o2, o3, some (.int (b : Nat)), o5, o6, some v, o8, o9, o10, o11, o12, o13, o14] ∧ Dp K (wos [p] G) v testD ∧ Gd tb p q ns G, ?_, ?_⟩
      · refine ⟨Nat.zero_le _, fun U1 hU1 => ⟨Nat.zero_le _, fun U2 hU2 => ⟨small_line (by show 7 ≤ 1000; decide), fun U3 hU3 => ?_⟩⟩⟩
        have t1 := tup_new (K := K) (xs := []) (ds := []) g0.src hU1 .nil
        have g1 := g0.same (same_upd (o := .tup []) hU1)
        have t2 := tup_new (K := K) (xs := []) (ds := []) g1.src hU2 .nil
        have g2 := g1.same (same_upd (o := .tup []) hU2)
        have t12 := Dp.same (Exs.of (S := [p]) (same_upd (o := .tup []) hU2)) _ _ t1
        have t3 := tup_new (K := K) (xs := [.str "if", .str "foot", .str "a", .str "zz", .int 1, .ref U1, .ref U2]) g2.src hU3 (.cons (.str _) (.cons (.str _) (.cons (.str _) (.cons (.str _) (.cons (.int _) (.cons t12 (.cons t2 .nil)))))))
        exact ⟨_, _, _, _, _, _, _, _, _, _, _, _, rfl, t3, g2.same (same_upd hU3)⟩
      clear g0
      rintro σ G ⟨v, o2, o3, o5, o6, o8, o9, o10, o11, o12, o13, o14, rfl, hv, g0⟩
      -- the tests
      refine ⟨fun σ G => ∃ (y : V) (m r : Nat) (o2 o3 o5 o6 o7 o8 o9 o10 o11 o12 o13 : Option V), σ = [some (.ref a), some (.ref p), o2, o3, some (.int (b : Nat)), o5, o6, o7, o8, o9, o10, o11, o12, o13, some y] ∧ m < 5 ∧ r ≤ 2 ∧ Dp K (wos [p] G) y (.tuple (testsD m (b : Int) r)) ∧ Gd tb p q ns G, ?_, ?_⟩
      · refine ⟨_, rfl, small_line (by show 1 ≤ 1000; decide), fun U2 hU2 => ⟨_, rfl, ?_⟩⟩
        have t2 := tup_new (K := K) (xs := [v]) (ds := [testD]) g0.src hU2 (.cons hv .nil)
        have g2 := g0.same (same_upd (o := .tup [v]) hU2)
        have v2 := Dp.same (Exs.of (S := [p]) (same_upd (o := .tup [v]) hU2)) _ _ hv
        refine ⟨p, q, ns, 5, rfl, g2.src, by decide, by decide, fun r1 G1 r10 r11 S1 B1 => ?_⟩
        have g1 := g2.ex (But.exs B1) S1
        obtain ⟨m, rfl⟩ := Int.eq_ofNat_of_zero_le r10
        have t1 := Dp.same (But.exs B1) _ _ t2
        have v1 := Dp.same (But.exs B1) _ _ v2
        refine rep_at g1.src t1 (by omega) fun z1 G3 d3 S3 e3 => ?_
        have g3 := g1.same e3
        have v3 := Dp.same (Exs.of (S := [p]) e3) _ _ v1
        refine ⟨_, rfl, _, rfl, small_line (by show 1 ≤ 1000; decide), fun U5 hU5 => ?_⟩
        have t5 := tup_new (K := K) (xs := [v]) (ds := [testD]) g3.src hU5 (.cons v3 .nil)
        have g5 := g3.same (same_upd (o := .tup [v]) hU5)
        have d5 := Dp.same (Exs.of (S := [p]) (same_upd (o := .tup [v]) hU5)) _ _ d3
        refine ⟨_, rfl, p, q, ns, 3, rfl, g5.src, by decide, by decide, fun r6 G6 r60 r61 S6 B6 => ?_⟩
        have g6 := g5.ex (But.exs B6) S6
        obtain ⟨r, rfl⟩ := Int.eq_ofNat_of_zero_le r60
        have t6 := Dp.same (But.exs B6) _ _ t5
        have d6 := Dp.same (But.exs B6) _ _ d5
        refine rep_at g6.src t6 (by omega) fun z7 G7 d7 S7 e7 => ?_
        have g7 := g6.same e7
        refine ⟨small_line (by show 3 ≤ 1000; decide), fun U8 hU8 => ⟨small_line (by show 1 ≤ 1000; decide), fun U9 hU9 => ?_⟩⟩
        have t8 := tup_new (K := K) (xs := [.str "repeat", .int (b : Nat), z7]) (ds := [.str "repeat", .int (b : Nat), .tuple (List.replicate r testD)]) g7.src hU8 (.cons (.str _) (.cons (.int _) (.cons d7 .nil)))
        have g8 := g7.same (same_upd (o := .tup [.str "repeat", .int (b : Nat), z7]) hU8)
        have t9 := tup_new (K := K) (xs := [.ref U8]) (ds := [repT (b : Nat) (List.replicate r testD)]) g8.src hU9 (.cons t8 .nil)
        have g9 := g8.same (same_upd (o := .tup [.ref U8]) hU9)
        have d9 := Dp.same ((Exs.of (S := [p]) e7).trans ((Exs.of (same_upd (o := .tup [.str "repeat", .int (b : Nat), z7]) hU8)).trans (Exs.of (same_upd (o := .tup [.ref U8]) hU9)))) _ _ d6
        exact cat_at g9.src d9 t9 (by rw [List.length_replicate]; show m + 1 ≤ 1000; omega) fun z10 G10 d10 S10 e10 => ⟨z10, m, r, _, _, _, _, _, _, _, _, _, _, _, rfl, by omega, by omega, d10, g9.same e10⟩
      clear g0 hv
      rintro σ G ⟨y, m, r, o2, o3, o5, o6, o7, o8, o9, o10, o11, o12, o13, rfl, hm, hr3, hy, g0⟩
      -- how many they are
      refine ⟨fun σ G => ∃ (n8 : Int) (o2 o3 o4 o5 o6 o7 o9 o10 o11 o12 o13 : Option V), σ = [some (.ref a), some (.ref p), o2, o3, o4, o5, o6, o7, some (.int n8), o9, o10, o11, o12, o13, some y] ∧ n8 = ((m + b * r : Nat) : Int) ∧ Dp K (wos [p] G) y (.tuple (testsD m (b : Int) r)) ∧ Gd tb p q ns G, ?_, ?_⟩
      · obtain ⟨Ta, xs, T2, W, ws, rfl, hT, lx, ha, h2, hW, lw⟩ := last_at (Dp.same wos_sub _ _ hy)
        rw [List.length_replicate] at lw
        have ha2 : atI xs ((xs.length : Nat) - 1 : Int) = some (.ref T2) := by
          rw [show ((xs.length : Nat) - 1 : Int) = (m : Nat) by omega]
          exact ha
        refine ⟨_, rfl, Ta, xs, rfl, .inr hT, _, _, rfl, rfl, _, rfl, _, rfl, _, rfl, Ta, xs, rfl, .inr hT, _, _, rfl, rfl, _, _, _, _, rfl, rfl, hT, ha2, _, _, _, _, rfl, rfl, h2, rfl, W, ws, rfl, .inr hW, _, _, rfl, rfl, .inl ⟨by omega, by omega⟩, _, _, rfl, rfl, _, _, _, _, _, _, _, _, _, _, _, _, rfl, ?_, hy, g0⟩
        show ((xs.length : Nat) - 1 : Int) + (b : Int) * (ws.length : Int) = _
        rw [lw, lx, show (((m + b * r : Nat)) : Int) = (m : Int) + (b : Int) * (r : Int) by push_cast; rfl]
        omega
      rintro σ G ⟨n8, o2, o3, o4, o5, o6, o7, o9, o10, o11, o12, o13, rfl, rfl, hy, g0⟩
      have hx0 : ∀ {U : Addr} {xs : List V} {G : Hp}, Gd tb p q ns G → G U = none → Gd tb p q ns (upd G U (.tup xs)) := fun g h => g.same (same_upd h)
      -- what must come
      refine ⟨fun σ G => ∃ (x : V) (o2 o3 o4 o5 o7 o9 o10 o11 o12 o13 : Option V), σ = [some (.ref a), some (.ref p), o2, o3, o4, o5, some x, o7, some (.int ((m + b * r : Nat) : Int)), o9, o10, o11, o12, o13, some y] ∧ Dp K (wos [p] G) x (due1 (m + b * r)) ∧ Dp K (wos [p] G) y (.tuple (testsD m (b : Int) r)) ∧ Gd tb p q ns G, ?_, ?_⟩
      · refine ⟨_, rfl, _, _, rfl, rfl, _, rfl, ?_⟩
        unfold due1
        by_cases c0 : 0 < m + b * r
        · rw [decide_eq_true (show (0 : Int) < ((m + b * r : Nat) : Int) by omega)]
          refine iteT ⟨small_line (by show 2 ≤ 1000; decide), fun U1 hU1 => ⟨_, _, _, _, _, _, _, _, _, _, _, rfl, ?_, Dp.same (Exs.of (S := [p]) (same_upd hU1)) _ _ hy, hx0 g0 hU1⟩⟩
          rw [if_pos c0]
          exact tup_new g0.src hU1 (.cons (.str _) (.cons (.str _) .nil))
        · rw [decide_eq_false (show ¬ (0 : Int) < ((m + b * r : Nat) : Int) by omega)]
          refine iteF ⟨small_line (by show 2 ≤ 1000; decide), fun U1 hU1 => ⟨_, _, _, _, _, _, _, _, _, _, _, rfl, ?_, Dp.same (Exs.of (S := [p]) (same_upd hU1)) _ _ hy, hx0 g0 hU1⟩⟩
          rw [if_neg c0]
          exact tup_new g0.src hU1 (.cons (.str _) (.cons (.int _) .nil))
      rintro σ G ⟨x, o2, o3, o4, o5, o7, o9, o10, o11, o12, o13, rfl, hx, hy, g0⟩
      refine ⟨fun σ G => ∃ (x : V) (o2 o3 o4 o5 o7 o9 o10 o11 o12 o13 : Option V), σ = [some (.ref a), some (.ref p), o2, o3, o4, o5, some x, o7, some (.int ((m + b * r : Nat) : Int)), o9, o10, o11, o12, o13, some y] ∧ Dp K (wos [p] G) x (due2 (m + b * r)) ∧ Dp K (wos [p] G) y (.tuple (testsD m (b : Int) r)) ∧ Gd tb p q ns G, ?_, ?_⟩
      · refine ⟨_, rfl, _, _, rfl, rfl, _, rfl, ?_⟩
        unfold due2
        by_cases c0 : 3 < m + b * r
        · rw [decide_eq_true (show (3 : Int) < ((m + b * r : Nat) : Int) by omega)]
          refine iteT ⟨small_line (by show 3 ≤ 1000; decide), fun U1 hU1 => ⟨_, _, _, _, _, _, _, _, _, _, _, rfl, ?_, Dp.same (Exs.of (S := [p]) (same_upd hU1)) _ _ hy, hx0 g0 hU1⟩⟩
          rw [if_pos c0]
          exact tup_new g0.src hU1 (.cons (.str _) (.cons (.str _) (.cons (.int _) .nil)))
        · rw [decide_eq_false (show ¬ (3 : Int) < ((m + b * r : Nat) : Int) by omega)]
          refine iteF ⟨_, rfl, _, _, _, _, _, _, _, _, _, _, _, rfl, ?_, hy, g0⟩
          rw [if_neg c0]
          exact hx
      clear g0 hy hx
      rintro σ G ⟨x, o2, o3, o4, o5, o7, o9, o10, o11, o12, o13, rfl, hx, hy, g0⟩
      refine ⟨fun σ G => ∃ (x : V) (o2 o3 o4 o5 o7 o8 o9 o10 o11 o12 o13 : Option V), σ = [some (.ref a), some (.ref p), o2, o3, o4, o5, some x, o7, o8, o9, o10, o11, o12, o13, some y] ∧ Dp K (wos [p] G) x (due3 (m + b * r)) ∧ Dp K (wos [p] G) y (.tuple (testsD m (b : Int) r)) ∧ Gd tb p q ns G, ?_, ?_⟩
      · refine ⟨_, rfl, _, _, rfl, rfl, _, _, rfl, rfl, _, rfl, ?_⟩
        unfold due3
        by_cases c0 : 12 < m + b * r + 1
        · rw [decide_eq_true (show (12 : Int) < ((m + b * r : Nat) : Int) + 1 by omega)]
          refine iteT ⟨small_line (by show 3 ≤ 1000; decide), fun U1 hU1 => ⟨_, _, _, _, _, _, _, _, _, _, _, _, rfl, ?_, Dp.same (Exs.of (S := [p]) (same_upd hU1)) _ _ hy, hx0 g0 hU1⟩⟩
          rw [if_pos c0]
          exact tup_new g0.src hU1 (.cons (.str _) (.cons (.str _) (.cons (.int _) .nil)))
        · rw [decide_eq_false (show ¬ (12 : Int) < ((m + b * r : Nat) : Int) + 1 by omega)]
          refine iteF ⟨_, rfl, _, _, _, _, _, _, _, _, _, _, _, _, rfl, ?_, hy, g0⟩
          rw [if_neg c0]
          exact hx
      clear g0 hy hx
      rintro σ G ⟨x, o2, o3, o4, o5, o7, o8, o9, o10, o11, o12, o13, rfl, hx, hy, g0⟩
      -- asked
      refine ⟨g0.tabs, fun H2 x1 t1 => ?_⟩
      have g1 := g0.grown x1 t1
      have hy1 := Dp.grown (extN_wos x1) hy
      have hx1 := Dp.grown (extN_wos x1) hx
      refine ⟨small_line (by show 1 ≤ 1000; decide), fun L hL => ⟨_, rfl, fun o dx ho hdx nx => ?_⟩⟩
      have mL := same_upd (o := .lst [.str "a"]) hL
      have el : (testsD m (b : Int) r).length = m + 1 := by
        unfold testsD
        rw [List.length_append, List.length_replicate]
        rfl
      obtain ⟨eq, smD⟩ := due_ok hm b1 b3 hr3
      refine ask_made (.int ((testsD m (b : Int) r).length : Nat)) T.own ho hdx (SqL.of upd_same) (Dp.same (wos_sub.trans mL) _ _ hy1) (tests_ok (by omega) (by omega) (by omega)) (by omega) (fun TA G3 s3 ht => ?_) (fun qq hn os es ws H' s' at_ => ?_)
      · rw [eq] at ht
        refine ⟨_, rfl, .ref TA, x, _, _, rfl, ht, Dp.same (wos_sub.trans (mL.trans s3)) _ _ hx1, smD, smD, _, rfl, ?_⟩
        rw [decide_eq_true rfl]
        exact iteF ⟨_, _, _, _, _, _, _, _, _, _, _, _, _, rfl, (g1.same mL).same s3⟩
      · obtain ⟨dxo, A1, B1, y1, h1, _⟩ := id at_.ex
        refine ⟨o, dxo, _, rfl, h1, o, os, es, _, _, 1, _, _, rfl, at_, ⟨_, rfl, by rw [el]; exact Nat.lt_of_lt_of_le (show m + 1 < 100 by omega) (by decide)⟩, small_line (by show 2 ≤ 1000; decide), fun T7 hT7 => ?_⟩
        refine qq T7 _ (s'.trans (same_upd hT7)) ?_
        rw [askD_ok hn]
        exact .tup (SqT.of upd_same) (.cons (.str _) (.cons (.int _) .nil))
    rintro σ G0 ⟨o2, o3, o4, o5, o6, o7, o8, o9, o10, o11, o12, o13, o14, rfl, g0⟩
    have fin_ : ∀ {U : Addr} {xs : List V} {G : Hp}, G U = none → Same G (upd G U (.tup xs)) := fun h => same_upd h
    -- places
    refine ⟨fun σ G => ∃ (Lp : Addr) (o2 o3 o4 o5 o6 o7 o8 o9 o10 o11 o13 o14 : Option V), σ = [some (.ref a), some (.ref p), o2, o3, o4, o5, o6, o7, o8, o9, o10, o11, some (.ref Lp), o13, o14] ∧ Dp K G (.ref Lp) (.list putsD) ∧ Gd tb p q ns G, ?_, ?_⟩
    · refine ⟨small_line (by show 4 ≤ 1000; decide), fun L hL => ⟨L, rfl, ⟨_, SqL.of upd_same⟩, fun D hD => ?_⟩⟩
      have mL := same_upd (o := .lst [V.str "p", .str "q", .str "r", .str "s"]) hL
      have mD := same_upd (o := .lst []) hD
      have hLL : (upd G0 L (.lst [V.str "p", .str "q", .str "r", .str "s"])) L = some (.lst ((["p", "q", "r", "s"] : List Str).map V.str)) := upd_same
      generalize upd G0 L (.lst [V.str "p", .str "q", .str "r", .str "s"]) = G1 at mL mD hLL hD ⊢
      refine lc_list (K := K) (a := L) (xs := ([("p" : Str), "q", "r", "s"]).map V.str) (fun i G' => Same G1 G' ∧ Acc K [] D G' (putsD.take i)) ⟨mD, Acc.start⟩ (fun i G' _ c => SqL.of (c.1 _ _ hLL)) (fun i v G' hv c => ?_) (fun G' c => ?_)
      · obtain ⟨s1, c⟩ := c
        rw [List.getElem?_map] at hv
        obtain ⟨z, hz, rfl⟩ := Option.map_eq_some_iff.mp hv
        have hp : putsD[i]? = some (putD z) := by
          show (([("p" : Str), "q", "r", "s"]).map putD)[i]? = _
          rw [List.getElem?_map, hz]
          rfl
        have li : i < putsD.length := (List.getElem?_eq_some_iff.mp hp).1
        have li : i < 4 := li
        refine ⟨rfl, _, rfl, small_line (by show 5 ≤ 1000; decide), fun U hU => ?_⟩
        have mU := same_upd (o := .tup [.str "place", .str z, .str "zz", .int 0, .int 0]) hU
        have nU : D ≠ U := fun e => by
          obtain ⟨acc, h1, _⟩ := c.ex
          rw [e, hU] at h1
          cases h1
        have c2 := c.on (Exs.of (S := [D]) mU) (fun o ho => mU _ _ ho)
        have hd : Dp K (wos [D] (upd G' U (.tup [.str "place", .str z, .str "zz", .int 0, .int 0]))) (.ref U) (putD z) := .tup (SqT.of (by rw [wos_out (fun m => nU (List.mem_singleton.mp m).symm)]; exact upd_same)) (.cons (.str _) (.cons (.str _) (.cons (.str _) (.cons (.int _) (.cons (.int _) .nil)))))
        obtain ⟨acc, h1, h2, h3⟩ := c2.more hd
        refine ⟨acc, h1, ?_, fun b o hb => ?_, ?_⟩
        · rw [h2, List.length_take]
          exact Nat.lt_of_le_of_lt (Nat.min_le_left _ _) (Nat.lt_of_lt_of_le (show i < 20 by omega) (by decide))
        · rw [upd_ne (ne_of_none hb hD)]
          exact mU _ _ (s1 _ _ hb)
        · rw [List.take_add_one, hp]
          exact h3
      · obtain ⟨s1, c⟩ := c
        exact ⟨D, _, _, _, _, _, _, _, _, _, _, _, _, rfl, Dp.same wos_sub _ _ (c.done (by simp)), (g0.same mL).same s1⟩
    clear g0
    rintro σ G0 ⟨Lp, o2, o3, o4, o5, o6, o7, o8, o9, o10, o11, o13, o14, rfl, hp0, g0⟩
    -- late
    refine ⟨fun σ G => ∃ (Ll : Addr) (o2 o3 o4 o5 o6 o7 o8 o9 o10 o13 o14 : Option V), σ = [some (.ref a), some (.ref p), o2, o3, o4, o5, o6, o7, o8, o9, o10, some (.ref Ll), some (.ref Lp), o13, o14] ∧ Dp K G (.ref Ll) (.list lateD) ∧ Dp K G (.ref Lp) (.list putsD) ∧ Gd tb p q ns G, ?_, ?_⟩
    · refine ⟨small_line (by show 5 ≤ 1000; decide), fun U1 hU1 => ⟨small_line (by show 2 ≤ 1000; decide), fun U2 hU2 => ⟨small_line (by show 2 ≤ 1000; decide), fun L hL => ?_⟩⟩⟩
      have m1 := same_upd (o := .tup [.str "place", .str "p", .str "a", .int 0, .int 0]) hU1
      have m2 := same_upd (o := .tup [.str "forget", .str "p"]) hU2
      have mL := same_upd (o := .lst [.ref U1, .ref U2]) hL
      have m := (m1.trans m2).trans mL
      exact ⟨L, _, _, _, _, _, _, _, _, _, _, _, rfl, .lst (SqL.of upd_same) (.cons (.tup (SqT.of (mL _ _ (m2 _ _ upd_same))) (.cons (.str _) (.cons (.str _) (.cons (.str _) (.cons (.int _) (.cons (.int _) .nil)))))) (.cons (.tup (SqT.of (mL _ _ upd_same)) (.cons (.str _) (.cons (.str _) .nil))) .nil)), Dp.same m _ _ hp0, g0.same m⟩
    clear g0 hp0
    rintro σ G0 ⟨Ll, o2, o3, o4, o5, o6, o7, o8, o9, o10, o13, o14, rfl, hl0, hp0, g0⟩
    -- what is asked
    refine ⟨fun σ G => ∃ (La : Addr) (o2 o3 o4 o5 o6 o7 o8 o9 o11 o12 o13 o14 : Option V), σ = [some (.ref a), some (.ref p), o2, o3, o4, o5, o6, o7, o8, o9, some (.ref La), o11, o12, o13, o14] ∧ Dp K G (.ref La) (.list asksD), ?_, ?_⟩
    · have b0 : Bz K tb p q ns Ll Lp G0 := ⟨g0, hl0, hp0⟩
      obtain ⟨sc1, sc2, sc3, sc4, sc5, sc6⟩ := late_sc
      refine ⟨b0.gd.tabs, fun H1 x1 t1 => ?_⟩
      have b1 := b0.grown x1 t1
      -- four places
      obtain ⟨_, vs1, e_, hL1, hv1⟩ := dp_list b1.hp
      cases e_
      refine ⟨small_line (by show 1 ≤ 1000; decide), fun L hL => ⟨_, rfl, _, _, rfl, .inl ⟨Same.seq (same_upd hL) hL1, fun U1 hU1 o dx ho hdx nx => ?_⟩⟩⟩
      have mL := same_upd (o := .lst [.str "a"]) hL
      have d1 := tupN (K := K) hU1 (DpAll.same mL _ _ hv1)
      have m1 := mL.trans (same_upd (o := .tup vs1) hU1)
      refine ask_made (.int 0) T.own ho hdx (SqL.of (same_upd hU1 _ _ upd_same)) d1 put_ok (by decide) (fun TA G1 s1 ha => ?_) (fun qq hn => absurd hn (by rw [sc1]; simp))
      rw [askD_no sc1] at ha
      have b2 := b1.same (m1.trans s1)
      clear hL1 hv1 d1
      -- three places
      refine ⟨b2.gd.tabs, fun H2 x2 t2 => ?_⟩
      have b3 := b2.grown x2 t2
      have ha2 := Dp.grown x2 ha
      obtain ⟨_, vs2, e_, hL2, hv2⟩ := dp_list b3.hp
      cases e_
      refine ⟨small_line (by show 1 ≤ 1000; decide), fun L hL => ⟨_, rfl, _, rfl, _, _, rfl, Same.seq (same_upd hL) hL2, fun D hD => ?_⟩⟩
      have mL := same_upd (o := .lst [.str "a"]) hL
      rw [show cutV vs2 none (some 3) = vs2.take 3 from cutV_take vs2 3]
      have mD := same_upd (o := .lst (vs2.take 3)) hD
      refine ⟨_, _, rfl, .inl ⟨SqL.of upd_same, fun U1 hU1 o dx ho hdx nx => ?_⟩⟩
      have d2 := tupN (K := K) hU1 (DpAll.same (mL.trans mD) _ _ (dpAll_take 3 hv2))
      have m2 := (mL.trans mD).trans (same_upd (o := .tup (vs2.take 3)) hU1)
      refine ask_made (.int 0) T.own ho hdx (SqL.of (same_upd hU1 _ _ (mD _ _ upd_same))) d2 (fun d hd => put_ok d (List.mem_of_mem_take hd)) (by decide) (fun TB G2 s2 hb => ?_) (fun qq hn => absurd hn (by rw [sc2]; simp))
      rw [askD_no sc2] at hb
      have b4 := b3.same (m2.trans s2)
      have ha3 := Dp.same (m2.trans s2) _ _ ha2
      clear hL2 hv2 d2 ha ha2 b2 b3
      -- a place three times
      refine ⟨b4.gd.tabs, fun H3 x3 t3 => ?_⟩
      have b5 := b4.grown x3 t3
      have ha4 := Dp.grown x3 ha3
      have hb4 := Dp.grown x3 hb
      obtain ⟨_, vs3, e_, hL3, hv3⟩ := dp_list b5.hl
      cases e_
      refine ⟨small_line (by show 1 ≤ 1000; decide), fun L hL => ⟨_, rfl, _, _, rfl, .inl ⟨Same.seq (same_upd hL) hL3, fun U1 hU1 => ⟨small_line (by show 3 ≤ 1000; decide), fun U2 hU2 => ⟨small_line (by show 1 ≤ 1000; decide), fun U3 hU3 o dx ho hdx nx => ?_⟩⟩⟩⟩⟩
      have mL := same_upd (o := .lst [.str "a"]) hL
      have e1 := tupN (K := K) hU1 (DpAll.same mL _ _ hv3)
      have e2 := tupN (K := K) (xs := [.str "repeat", .int 3, .ref U1]) (ds := [.str "repeat", .int 3, .tuple lateD]) hU2 (.cons (.str _) (.cons (.int _) (.cons e1 .nil)))
      have e3 := tupN (K := K) (xs := [.ref U2]) (ds := [repT 3 lateD]) hU3 (.cons e2 .nil)
      have mU := ((same_upd (o := .tup vs3) hU1).trans (same_upd (o := .tup [.str "repeat", .int 3, .ref U1]) hU2)).trans (same_upd (o := .tup [.ref U2]) hU3)
      have m3 := mL.trans mU
      have ok3 : DsL 1 3 [repT 3 lateD] := all_one (okS_rep (n := 1) (by decide) (by decide) (by decide) late_ok)
      refine ask_made (.int 3) T.own ho hdx (SqL.of (mU _ _ upd_same)) e3 ok3 (by decide) (fun TC G3 s3 hc => ?_) (fun qq hn os es ws H' s' at_ => ?_)
      rotate_left
      · obtain ⟨dxo, A1, B1, y1, h1, _⟩ := id at_.ex
        refine ⟨o, dxo, _, rfl, h1, o, os, es, _, _, 1, _, _, rfl, at_, small_line (by show 2 ≤ 1000; decide), fun T7 hT7 => ?_⟩
        refine qq T7 _ (s'.trans (same_upd hT7)) ?_
        rw [askD_ok hn, late_cw.1]
        exact .tup (SqT.of upd_same) (.cons (.str _) (.cons (.int _) .nil))
      rw [askD_ok sc3] at hc
      have b6 := b5.same (m3.trans s3)
      have ha5 := Dp.same (m3.trans s3) _ _ ha4
      have hb5 := Dp.same (m3.trans s3) _ _ hb4
      clear hL3 hv3 e1 e2 e3 ha3 ha4 hb hb4 b4 b5
      -- and once more
      refine ⟨b6.gd.tabs, fun H4 x4 t4 => ?_⟩
      have b7 := b6.grown x4 t4
      have ha6 := Dp.grown x4 ha5
      have hb6 := Dp.grown x4 hb5
      have hc6 := Dp.grown x4 hc
      obtain ⟨_, vs4, e_, hL4, hv4⟩ := dp_list b7.hl
      cases e_
      obtain ⟨w1, w2, rfl, hw1, hw2⟩ : ∃ w1 w2, vs4 = [w1, w2] ∧ Dp K H4 w1 lateP ∧ Dp K H4 w2 lateF := by
        cases hv4 with
        | cons a t => cases t with
          | cons b t =>
            cases t
            exact ⟨_, _, rfl, a, b⟩
      refine ⟨small_line (by show 1 ≤ 1000; decide), fun L hL => ⟨_, rfl, _, _, rfl, .inl ⟨Same.seq (same_upd hL) hL4, fun U1 hU1 => ⟨small_line (by show 3 ≤ 1000; decide), fun U2 hU2 => ⟨_, rfl, _, _, _, _, rfl, rfl, Same.seq ((same_upd hL).trans ((same_upd hU1).trans (same_upd hU2))) hL4, rfl, small_line (by show 2 ≤ 1000; decide), fun U3 hU3 o dx ho hdx nx => ?_⟩⟩⟩⟩⟩
      have mL := same_upd (o := .lst [.str "a"]) hL
      have e1 := tupN (K := K) (xs := [w1, w2]) (ds := lateD) hU1 (DpAll.same mL _ _ hv4)
      have e2 := tupN (K := K) (xs := [.str "repeat", .int 3, .ref U1]) (ds := [.str "repeat", .int 3, .tuple lateD]) hU2 (.cons (.str _) (.cons (.int _) (.cons e1 .nil)))
      have m12 := mL.trans ((same_upd (o := .tup [w1, w2]) hU1).trans (same_upd (o := .tup [.str "repeat", .int 3, .ref U1]) hU2))
      have e3 := tupN (K := K) (xs := [.ref U2, w1]) (ds := [repT 3 lateD, lateP]) hU3 (.cons e2 (.cons (Dp.same m12 _ _ hw1) .nil))
      have mU := ((same_upd (o := .tup [w1, w2]) hU1).trans (same_upd (o := .tup [.str "repeat", .int 3, .ref U1]) hU2)).trans (same_upd (o := .tup [.ref U2, w1]) hU3)
      have m4 := mL.trans mU
      have ok4 : DsL 1 3 [repT 3 lateD, lateP] := all2 (okS_rep (n := 1) (by decide) (by decide) (by decide) late_ok) (late_ok (n := 2) lateP List.mem_cons_self)
      refine ask_made (.int 0) T.own ho hdx (SqL.of (mU _ _ upd_same)) e3 ok4 (by decide) (fun TD G4 s4 hd => ?_) (fun qq hn => absurd hn (by rw [sc4]; simp))
      rw [askD_no sc4] at hd
      have b8 := b7.same (m4.trans s4)
      have ha7 := Dp.same (m4.trans s4) _ _ ha6
      have hb7 := Dp.same (m4.trans s4) _ _ hb6
      have hc7 := Dp.same (m4.trans s4) _ _ hc6
      clear hL4 hv4 hw1 hw2 e1 e2 e3 ha5 ha6 hb5 hb6 hc hc6 b6 b7
      -- two and two in the parts of an if
      refine ⟨b8.gd.tabs, fun H5 x5 t5 => ?_⟩
      have b9 := b8.grown x5 t5
      have ha8 := Dp.grown x5 ha7
      have hb8 := Dp.grown x5 hb7
      have hc8 := Dp.grown x5 hc7
      have hd8 := Dp.grown x5 hd
      obtain ⟨_, vs5, e_, hL5, hv5⟩ := dp_list b9.hp
      cases e_
      refine ⟨small_line (by show 1 ≤ 1000; decide), fun L hL => ⟨_, rfl, _, rfl, _, _, rfl, Same.seq (same_upd hL) hL5, fun D1 hD1 => ?_⟩⟩
      have mL := same_upd (o := .lst [.str "a"]) hL
      rw [show cutV vs5 none (some 2) = vs5.take 2 from cutV_take vs5 2]
      have mD1 := same_upd (o := .lst (vs5.take 2)) hD1
      refine ⟨_, _, rfl, .inl ⟨SqL.of upd_same, fun U1 hU1 => ?_⟩⟩
      have e1 := tupN (K := K) hU1 (DpAll.same (mL.trans mD1) _ _ (dpAll_take 2 hv5))
      have mU1 := same_upd (o := .tup (vs5.take 2)) hU1
      refine ⟨_, rfl, _, rfl, _, _, rfl, Same.seq ((mL.trans mD1).trans mU1) hL5, fun D2 hD2 => ?_⟩
      rw [show cutV vs5 (some 2) none = vs5.drop 2 from cutV_drop vs5 2]
      have mD2 := same_upd (o := .lst (vs5.drop 2)) hD2
      refine ⟨_, _, rfl, .inl ⟨SqL.of upd_same, fun U2 hU2 => ⟨small_line (by show 7 ≤ 1000; decide), fun U3 hU3 => ⟨small_line (by show 1 ≤ 1000; decide), fun U4 hU4 o dx ho hdx nx => ?_⟩⟩⟩⟩
      have e2 := tupN (K := K) hU2 (DpAll.same (((mL.trans mD1).trans mU1).trans mD2) _ _ (dpAll_drop 2 hv5))
      have mU2 := same_upd (o := .tup (vs5.drop 2)) hU2
      have e3 := tupN (K := K) (xs := [.str "if", .str "foot", .str "a", .str "a", .int 0, .ref U1, .ref U2]) (ds := [.str "if", .str "foot", .str "a", .str "a", .int 0, .tuple (putsD.take 2), .tuple (putsD.drop 2)]) hU3 (.cons (.str _) (.cons (.str _) (.cons (.str _) (.cons (.str _) (.cons (.int _) (.cons (Dp.same (mD2.trans mU2) _ _ e1) (.cons e2 .nil)))))))
      have mU3 := same_upd (o := .tup [.str "if", .str "foot", .str "a", .str "a", .int 0, .ref U1, .ref U2]) hU3
      have e4 := tupN (K := K) (xs := [.ref U3]) (ds := [ifAA (putsD.take 2) (putsD.drop 2)]) hU4 (.cons e3 .nil)
      have mU := ((mD1.trans mU1).trans (mD2.trans mU2)).trans (mU3.trans (same_upd (o := .tup [.ref U3]) hU4))
      have m5 := mL.trans mU
      have ok5 : DsL 1 3 [ifAA (putsD.take 2) (putsD.drop 2)] := all_one (ifAA_ok (n := 1) (by decide) (by decide) (fun d hd => put_ok d (List.mem_of_mem_take hd)) (fun d hd => put_ok d (List.mem_of_mem_drop hd)))
      refine ask_made (.int 0) T.own ho hdx (SqL.of (mU _ _ upd_same)) e4 ok5 (by decide) (fun TE G5 s5 he => ?_) (fun qq hn => absurd hn (by rw [sc5]; simp))
      rw [askD_no sc5] at he
      have b10 := b9.same (m5.trans s5)
      have ha9 := Dp.same (m5.trans s5) _ _ ha8
      have hb9 := Dp.same (m5.trans s5) _ _ hb8
      have hc9 := Dp.same (m5.trans s5) _ _ hc8
      have hd9 := Dp.same (m5.trans s5) _ _ hd8
      clear hL5 hv5 e1 e2 e3 e4 ha7 ha8 hb7 hb8 hc7 hc8 hd hd8 b8 b9
      -- a test three times
      refine ⟨b10.gd.tabs, fun H6 x6 t6 => ?_⟩
      have haA := Dp.grown x6 ha9
      have hbA := Dp.grown x6 hb9
      have hcA := Dp.grown x6 hc9
      have hdA := Dp.grown x6 hd9
      have heA := Dp.grown x6 he
      refine ⟨small_line (by show 1 ≤ 1000; decide), fun L hL => ⟨small_line (by show 1 ≤ 1000; decide), fun U1 hU1 => ⟨small_line (by show 1 ≤ 1000; decide), fun U2 hU2 => ⟨small_line (by show 1 ≤ 1000; decide), fun U3 hU3 => ⟨small_line (by show 1 ≤ 1000; decide), fun U4 hU4 => ⟨small_line (by show 7 ≤ 1000; decide), fun U5 hU5 => ⟨small_line (by show 1 ≤ 1000; decide), fun U6 hU6 => ⟨small_line (by show 3 ≤ 1000; decide), fun U7 hU7 => ⟨small_line (by show 1 ≤ 1000; decide), fun U8 hU8 o dx ho hdx nx => ?_⟩⟩⟩⟩⟩⟩⟩⟩⟩
      have mL := same_upd (o := .lst [.str "a"]) hL
      have f1 := tupN (K := K) (xs := [.str "turn"]) (ds := [.str "turn"]) hU1 (.cons (.str _) .nil)
      have f2 := tupN (K := K) (xs := [.ref U1]) (ds := [turnD]) hU2 (.cons f1 .nil)
      have f3 := tupN (K := K) (xs := [.str "turn"]) (ds := [.str "turn"]) hU3 (.cons (.str _) .nil)
      have f4 := tupN (K := K) (xs := [.ref U3]) (ds := [turnD]) hU4 (.cons f3 .nil)
      have n3 := same_upd (o := .tup [.str "turn"]) hU3
      have n4 := same_upd (o := .tup [.ref U3]) hU4
      have f5 := tupN (K := K) (xs := [.str "if", .str "foot", .str "a", .str "a", .int 0, .ref U2, .ref U4]) (ds := [.str "if", .str "foot", .str "a", .str "a", .int 0, .tuple [turnD], .tuple [turnD]]) hU5 (.cons (.str _) (.cons (.str _) (.cons (.str _) (.cons (.str _) (.cons (.int _) (.cons (Dp.same (n3.trans n4) _ _ f2) (.cons f4 .nil)))))))
      have f6 := tupN (K := K) (xs := [.ref U5]) (ds := [ifAA [turnD] [turnD]]) hU6 (.cons f5 .nil)
      have f7 := tupN (K := K) (xs := [.str "repeat", .int 3, .ref U6]) (ds := [.str "repeat", .int 3, .tuple [ifAA [turnD] [turnD]]]) hU7 (.cons (.str _) (.cons (.int _) (.cons f6 .nil)))
      have f8 := tupN (K := K) (xs := [.ref U7]) (ds := [repT 3 [ifAA [turnD] [turnD]]]) hU8 (.cons f7 .nil)
      have mU := ((((((same_upd (o := .tup [.str "turn"]) hU1).trans (same_upd (o := .tup [.ref U1]) hU2)).trans n3).trans n4).trans (same_upd (o := .tup [.str "if", .str "foot", .str "a", .str "a", .int 0, .ref U2, .ref U4]) hU5)).trans (same_upd (o := .tup [.ref U5]) hU6)).trans ((same_upd (o := .tup [.str "repeat", .int 3, .ref U6]) hU7).trans (same_upd (o := .tup [.ref U7]) hU8))
      have m6 := mL.trans mU
      have ok6 : DsL 1 3 [repT 3 [ifAA [turnD] [turnD]]] := all_one (okS_rep (n := 1) (by decide) (by decide) (by decide) (all_one (ifAA_ok (n := 0) (by decide) (by decide) (all_one ok_turn) (all_one ok_turn))))
      refine ask_made (.int 3) T.own ho hdx (SqL.of (mU _ _ upd_same)) f8 ok6 (by decide) (fun TF G6 s6 hf => ?_) (fun qq hn os es ws H' s' at_ => ?_)
      rotate_left
      · obtain ⟨dxo, A1, B1, y1, h1, _⟩ := id at_.ex
        refine ⟨o, dxo, _, rfl, h1, o, os, es, _, _, 1, _, _, rfl, at_, small_line (by show 2 ≤ 1000; decide), fun T7 hT7 => ?_⟩
        refine qq T7 _ (s'.trans (same_upd hT7)) ?_
        rw [askD_ok hn, late_cw.2]
        exact .tup (SqT.of upd_same) (.cons (.str _) (.cons (.int _) .nil))
      rw [askD_ok sc6] at hf
      have m7 := m6.trans s6
      refine ⟨small_line (by show 6 ≤ 1000; decide), fun La hLa => ?_⟩
      have mLa := same_upd (o := .lst [.ref TA, .ref TB, .ref TC, .ref TD, .ref TE, .ref TF]) hLa
      have m8 := m7.trans mLa
      exact ⟨La, _, _, _, _, _, _, _, _, _, _, _, _, rfl, .lst (SqL.of upd_same) (.cons (Dp.same m8 _ _ haA) (.cons (Dp.same m8 _ _ hbA) (.cons (Dp.same m8 _ _ hcA) (.cons (Dp.same m8 _ _ hdA) (.cons (Dp.same m8 _ _ heA) (.cons (Dp.same mLa _ _ hf) .nil))))))⟩
    clear g0 hl0 hp0
    rintro σ G0 ⟨La, o2, o3, o4, o5, o6, o7, o8, o9, o11, o12, o13, o14, rfl, ha⟩
    refine ⟨_, rfl, small_line (by show 3 ≤ 1000; decide), fun U1 hU1 => ⟨small_line (by show 2 ≤ 1000; decide), fun U2 hU2 => ⟨small_line (by show 2 ≤ 1000; decide), fun U3 hU3 => ⟨small_line (by show 3 ≤ 1000; decide), fun U4 hU4 => ⟨small_line (by show 3 ≤ 1000; decide), fun U5 hU5 => ⟨small_line (by show 2 ≤ 1000; decide), fun U6 hU6 => ⟨small_line (by show 6 ≤ 1000; decide), fun L hL => ?_⟩⟩⟩⟩⟩⟩⟩
    have c1 := same_upd (o := .tup [.str "TooMany", .str "puts", .int 3]) hU1
    have c2 := same_upd (o := .tup [.str "UnknownName", .str "zz"]) hU2
    have c3 := same_upd (o := .tup [.str "", .int 3]) hU3
    have c4 := same_upd (o := .tup [.str "TooMany", .str "puts", .int 3]) hU4
    have c5 := same_upd (o := .tup [.str "TooMany", .str "puts", .int 3]) hU5
    have c6 := same_upd (o := .tup [.str "", .int 3]) hU6
    have cL := same_upd (o := .lst [.ref U1, .ref U2, .ref U3, .ref U4, .ref U5, .ref U6]) hL
    have k6 := cL
    have k5 := c6.trans k6
    have k4 := c5.trans k5
    have k3 := c4.trans k4
    have k2 := c3.trans k3
    have k1 := c2.trans k2
    refine ⟨.ref La, .ref L, .list asksD, .list asksD, rfl, Dp.same (c1.trans k1) _ _ ha, .lst (SqL.of upd_same) (.cons (.tup (SqT.of (k1 _ _ upd_same)) (.cons (.str _) (.cons (.str _) (.cons (.int _) .nil)))) (.cons (.tup (SqT.of (k2 _ _ upd_same)) (.cons (.str _) (.cons (.str _) .nil))) (.cons (.tup (SqT.of (k3 _ _ upd_same)) (.cons (.str _) (.cons (.int _) .nil)))
      (.cons (.tup (SqT.of (k4 _ _ upd_same)) (.cons (.str _) (.cons (.str _) (.cons (.int _) .nil)))) (.cons (.tup (SqT.of (k5 _ _ upd_same)) (.cons (.str _) (.cons (.str _) (.cons (.int _) .nil)))) (.cons (.tup (SqT.of (k6 _ _ upd_same)) (.cons (.str _) (.cons (.int _) .nil))) .nil)))))), asks_sm, asks_sm, ?_⟩
    rw [decide_eq_true rfl]
    exact k _
end
end Lw

set_option maxRecDepth 100000
set_option maxHeartbeats 0
namespace Lw
open PySem PySem.Spec PyProof.Rows L2 VG
theorem vals_rev : ∀ {xs : List V} {us : List Value}, Vals xs us → Vals xs.reverse us.reverse
  | _, _, .nil => .nil
  | _, _, .cons r t => by
    rw [List.reverse_cons, List.reverse_cons]
    exact (vals_rev t).append (.cons r .nil)
abbrev L : PySem.W.OpenLaw := PySem.Challenge.rw_missingmiles_k27_sizes_of_scripts_refuse
theorem scIni0 : IniScope ["self", "subject", "most"] (defScope sIni0) := ⟨rfl, rfl, rfl, by decide +kernel, by decide +kernel, by decide +kernel, by decide +kernel, rfl, rfl⟩
theorem scIni1 : IniScope ["self", "name"] (defScope sIni1) := ⟨rfl, rfl, rfl, by decide +kernel, by decide +kernel, by decide +kernel, by decide +kernel, rfl, rfl⟩
theorem scIni2 : IniScope ["self", "path"] (defScope sIni2) := ⟨rfl, rfl, rfl, by decide +kernel, by decide +kernel, by decide +kernel, by decide +kernel, rfl, rfl⟩
theorem scIni3 : IniScope ["self", "name"] (defScope sIni3) := ⟨rfl, rfl, rfl, by decide +kernel, by decide +kernel, by decide +kernel, by decide +kernel, rfl, rfl⟩
theorem facts {w : World} {K : PySem.W.Frag} {h : Heap} {mg : Str → Option Value} {f : Addr} (X : K.In h) (G : h.Ns mainGlobals mg) (hfa : mg ("law" : Str) = some (.ref f)) (c : SaysS fas fns tabs tfs more ins pros stas w h K) : LawG L w K CX0 23 63 "_law_script_z" mg f h := by
  have d := c.x.t.d
  have e := hfa.symm.trans (He.glo_ok X G (d.fact 0 (f := .glo "law") rfl))
  cases e
  have gl : ∀ {x : Str} (i : Nat), fas[i]? = some (.glo x) → mg x = some (.ref (He.ga K x)) := fun i hi => He.glo_ok X G (d.fact i hi)
  have fr : ∀ {x : Str} (i : Nat), fas[i]? = some (.free x) → mg x = none := fun i hi => He.free_ok X G (d.fact i hi)
  obtain ⟨fd0, F0⟩ := d.def_ 0 (d := glb "law" sLaw []) rfl
  obtain ⟨fd1, F1⟩ := d.def_ 1 (d := glb "_law_source" sSource []) rfl
  obtain ⟨fd2, F2⟩ := d.def_ 2 (d := glb "_law_draw" sDraw []) rfl
  obtain ⟨fd3, F3⟩ := d.def_ 3 (d := glb "_law_same" sSame []) rfl
  obtain ⟨fd4, F4⟩ := d.def_ 4 (d := glb "_law_fields" s__law_fields []) rfl
  obtain ⟨fd5, F5⟩ := d.def_ 5 (d := glb "_law_ask" s__law_ask []) rfl
  obtain ⟨fd6, F6⟩ := d.def_ 6 (d := glb "copied" s_copied []) rfl
  obtain ⟨fd7, F7⟩ := d.def_ 7 (d := glb "_is_whole" s__is_whole []) rfl
  obtain ⟨fd8, F8⟩ := d.def_ 8 (d := glb "is_number" s_is_number []) rfl
  obtain ⟨fd9, F9⟩ := d.def_ 9 (d := glb "is_ratio" s_is_ratio []) rfl
  obtain ⟨fd10, F10⟩ := d.def_ 10 (d := glb "can_be_ratio" s_can_be_ratio []) rfl
  obtain ⟨fd11, F11⟩ := d.def_ 11 (d := glb "is_length" s_is_length []) rfl
  obtain ⟨fd12, F12⟩ := d.def_ 12 (d := glb "is_scale" s_is_scale []) rfl
  obtain ⟨fd13, F13⟩ := d.def_ 13 (d := glb "ratio_of" s_ratio_of []) rfl
  obtain ⟨fd14, F14⟩ := d.def_ 14 (d := glb "_figures" s__figures []) rfl
  obtain ⟨fd15, F15⟩ := d.def_ 15 (d := glb "ratio_text" s_ratio_text []) rfl
  obtain ⟨fd16, F16⟩ := d.def_ 16 (d := glb "_are_letters" s__are_letters []) rfl
  obtain ⟨fd17, F17⟩ := d.def_ 17 (d := glb "is_name" s_is_name []) rfl
  obtain ⟨fd18, F18⟩ := d.def_ 18 (d := glb "is_layer" s_is_layer [.int 2]) rfl
  obtain ⟨fd19, F19⟩ := d.def_ 19 (d := glb "is_item" s_is_item [.int 2]) rfl
  obtain ⟨fd20, F20⟩ := d.def_ 20 (d := glb "are_items" s_are_items [.int 2]) rfl
  obtain ⟨fd21, F21⟩ := d.def_ 21 (d := glb "known_names" s_known_names []) rfl
  obtain ⟨fd22, F22⟩ := d.def_ 22 (d := glb "inner_steps" s_inner_steps []) rfl
  obtain ⟨fd23, F23⟩ := d.def_ 23 (d := glb "times_of" s_times_of []) rfl
  obtain ⟨fd24, F24⟩ := d.def_ 24 (d := glb "is_leaf" s_is_leaf [.int 2]) rfl
  obtain ⟨fd25, F25⟩ := d.def_ 25 (d := glb "check_names" s_check_names []) rfl
  obtain ⟨fd26, F26⟩ := d.def_ 26 (d := glb "check_layers" s_check_layers []) rfl
  obtain ⟨fd27, F27⟩ := d.def_ 27 (d := glb "_is_step" s__is_step []) rfl
  obtain ⟨fd28, F28⟩ := d.def_ 28 (d := glb "check_steps" s_check_steps [.adr (dflN ("check_steps", none))]) rfl
  obtain ⟨fd29, F29⟩ := d.def_ 29 (d := glb "count_steps" s_count_steps []) rfl
  obtain ⟨fd30, F30⟩ := d.def_ 30 (d := glb "count_word" s_count_word []) rfl
  obtain ⟨fd31, F31⟩ := d.def_ 31 (d := glb "names_behind" s_names_behind [.adr (dflN ("names_behind", none)), .int 0]) rfl
  obtain ⟨fd32, F32⟩ := d.def_ 32 (d := glb "_names_behind_step" s__names_behind_step []) rfl
  obtain ⟨fd33, F33⟩ := d.def_ 33 (d := glb "_names_behind_if" s__names_behind_if []) rfl
  obtain ⟨fd34, F34⟩ := d.def_ 34 (d := glb "_names_behind_repeat" s__names_behind_repeat []) rfl
  obtain ⟨fd35, F35⟩ := d.def_ 35 (d := glb "_names_with" s__names_with []) rfl
  obtain ⟨fd36, F36⟩ := d.def_ 36 (d := glb "text_of" s_text_of []) rfl
  obtain ⟨fd37, F37⟩ := d.def_ 37 (d := glb "_words_of" s__words_of []) rfl
  obtain ⟨fd38, F38⟩ := d.def_ 38 (d := glb "_step_words" s__step_words []) rfl
  obtain ⟨fd39, F39⟩ := d.def_ 39 (d := glb "_item_words" s__item_words []) rfl
  obtain ⟨fd40, F40⟩ := d.def_ 40 (d := glb "_bracketed" s__bracketed []) rfl
  obtain ⟨fd41, F41⟩ := d.def_ 41 (d := mthD "Script" "__init__" kInit [.adr (dflN ("Script", some "__init__"))] [("layers", .int 1)]) rfl
  obtain ⟨fd42, F42⟩ := d.def_ 42 (d := mth "Script" "__len__" kLen) rfl
  have b0 := FunD.bindsA (ps := ["_law_script_z"]) F0 fun _ _ _ _ _ _ us hl => match us, hl with | [_], _ => rfl
  have b1 := FunD.bindsN (ps := ["_law_script"]) F1 fun _ _ _ _ _ _ us hl => match us, hl with | [_], _ => rfl
  have b2 := FunD.bindsN (ps := ["_law_src", "_law_many"]) F2 fun _ _ _ _ _ _ us hl => match us, hl with | [_, _], _ => rfl
  have b3 := FunD.bindsN (ps := ["_law_found", "_law_due"]) F3 fun _ _ _ _ _ _ us hl => match us, hl with | [_, _], _ => rfl
  have b4 := FunD.bindsN (ps := ["_law_e"]) F4 fun _ _ _ _ _ _ us hl => match us, hl with | [_], _ => rfl
  have b5 := FunD.bindsN (ps := ["_law_f"]) F5 fun _ _ _ _ _ _ us hl => match us, hl with | [_], _ => rfl
  have b6 := FunD.bindsN (ps := ["value"]) F6 fun _ _ _ _ _ _ us hl => match us, hl with | [_], _ => rfl
  have b7 := FunD.bindsN (ps := ["value"]) F7 fun _ _ _ _ _ _ us hl => match us, hl with | [_], _ => rfl
  have b8 := FunD.bindsN (ps := ["value", "least", "most"]) F8 fun _ _ _ _ _ _ us hl => match us, hl with | [_, _, _], _ => rfl
  have b9 := FunD.bindsN (ps := ["value"]) F9 fun _ _ _ _ _ _ us hl => match us, hl with | [_], _ => rfl
  have b10 := FunD.bindsN (ps := ["value"]) F10 fun _ _ _ _ _ _ us hl => match us, hl with | [_], _ => rfl
  have b11 := FunD.bindsN (ps := ["value"]) F11 fun _ _ _ _ _ _ us hl => match us, hl with | [_], _ => rfl
  have b12 := FunD.bindsN (ps := ["value"]) F12 fun _ _ _ _ _ _ us hl => match us, hl with | [_], _ => rfl
  have b13 := FunD.bindsN (ps := ["value"]) F13 fun _ _ _ _ _ _ us hl => match us, hl with | [_], _ => rfl
  have b14 := FunD.bindsN (ps := ["number"]) F14 fun _ _ _ _ _ _ us hl => match us, hl with | [_], _ => rfl
  have b15 := FunD.bindsN (ps := ["value"]) F15 fun _ _ _ _ _ _ us hl => match us, hl with | [_], _ => rfl
  have b16 := FunD.bindsN (ps := ["value", "most"]) F16 fun _ _ _ _ _ _ us hl => match us, hl with | [_, _], _ => rfl
  have b17 := FunD.bindsN (ps := ["value"]) F17 fun _ _ _ _ _ _ us hl => match us, hl with | [_], _ => rfl
  have b21 := FunD.bindsN (ps := ["step"]) F21 fun _ _ _ _ _ _ us hl => match us, hl with | [_], _ => rfl
  have b22 := FunD.bindsN (ps := ["step"]) F22 fun _ _ _ _ _ _ us hl => match us, hl with | [_], _ => rfl
  have b23 := FunD.bindsN (ps := ["step"]) F23 fun _ _ _ _ _ _ us hl => match us, hl with | [_], _ => rfl
  have b25 := FunD.bindsN (ps := ["names"]) F25 fun _ _ _ _ _ _ us hl => match us, hl with | [_], _ => rfl
  have b26 := FunD.bindsN (ps := ["layers"]) F26 fun _ _ _ _ _ _ us hl => match us, hl with | [_], _ => rfl
  have b27 := FunD.bindsN (ps := ["value", "layers"]) F27 fun _ _ _ _ _ _ us hl => match us, hl with | [_, _], _ => rfl
  have b29 := FunD.bindsN (ps := ["steps"]) F29 fun _ _ _ _ _ _ us hl => match us, hl with | [_], _ => rfl
  have b30 := FunD.bindsN (ps := ["steps", "word"]) F30 fun _ _ _ _ _ _ us hl => match us, hl with | [_, _], _ => rfl
  have b32 := FunD.bindsN (ps := ["names", "step", "path"]) F32 fun _ _ _ _ _ _ us hl => match us, hl with | [_, _, _], _ => rfl
  have b33 := FunD.bindsN (ps := ["names", "step", "path"]) F33 fun _ _ _ _ _ _ us hl => match us, hl with | [_, _, _], _ => rfl
  have b34 := FunD.bindsN (ps := ["names", "step", "path"]) F34 fun _ _ _ _ _ _ us hl => match us, hl with | [_, _, _], _ => rfl
  have b35 := FunD.bindsN (ps := ["names", "name"]) F35 fun _ _ _ _ _ _ us hl => match us, hl with | [_, _], _ => rfl
  have b36 := FunD.bindsN (ps := ["steps"]) F36 fun _ _ _ _ _ _ us hl => match us, hl with | [_], _ => rfl
  have b37 := FunD.bindsN (ps := ["steps"]) F37 fun _ _ _ _ _ _ us hl => match us, hl with | [_], _ => rfl
  have b38 := FunD.bindsN (ps := ["step"]) F38 fun _ _ _ _ _ _ us hl => match us, hl with | [_], _ => rfl
  have b39 := FunD.bindsN (ps := ["items"]) F39 fun _ _ _ _ _ _ us hl => match us, hl with | [_], _ => rfl
  have b40 := FunD.bindsN (ps := ["steps"]) F40 fun _ _ _ _ _ _ us hl => match us, hl with | [_], _ => rfl
  have b42 := FunD.bindsN (ps := ["self"]) F42 fun _ _ _ _ _ _ us hl => match us, hl with | [_], _ => rfl
  have m := c.x.more
  obtain ⟨g0, m⟩ := He.ba m
  obtain ⟨g1, m⟩ := He.ba m
  have g2 := m
  have m : more0 K = true := g0
  obtain ⟨m_gcd, m⟩ := He.ba m
  obtain ⟨m_MOST_PUTS, m⟩ := He.ba m
  obtain ⟨m_MOST_AT_FIRST, m⟩ := He.ba m
  obtain ⟨m_MOST_DEEP, m⟩ := He.ba m
  obtain ⟨m_MOST_TIMES, m⟩ := He.ba m
  obtain ⟨m_MOST_NAMES, m⟩ := He.ba m
  obtain ⟨m_lays, m⟩ := He.ba m
  obtain ⟨m_shp, m⟩ := He.ba m
  obtain ⟨m_shpn, m⟩ := He.ba m
  obtain ⟨m_br, m⟩ := He.ba m
  obtain ⟨m_brn, m⟩ := He.ba m
  have m_nC := m
  have m : more1 K = true := g1
  obtain ⟨m_nB, m⟩ := He.ba m
  obtain ⟨m_conM, m⟩ := He.ba m
  obtain ⟨m_conT, m⟩ := He.ba m
  obtain ⟨m_pT, m⟩ := He.ba m
  obtain ⟨m_pU, m⟩ := He.ba m
  obtain ⟨m_eTooMany, m⟩ := He.ba m
  obtain ⟨m_iTooMany, m⟩ := He.ba m
  obtain ⟨m_xTooMany, m⟩ := He.ba m
  obtain ⟨m_eDuplicateName, m⟩ := He.ba m
  obtain ⟨m_iDuplicateName, m⟩ := He.ba m
  obtain ⟨m_xDuplicateName, m⟩ := He.ba m
  have m_eUnlikeEnds := m
  have m : more2 K = true := g2
  obtain ⟨m_iUnlikeEnds, m⟩ := He.ba m
  obtain ⟨m_xUnlikeEnds, m⟩ := He.ba m
  obtain ⟨m_eUnknownName, m⟩ := He.ba m
  obtain ⟨m_iUnknownName, m⟩ := He.ba m
  have m_xUnknownName := m
  have gg : mg "gcd" = some (.builtin "math.gcd") := PySem.W.mg_of X G (of_decide_eq_true m_gcd)
  obtain ⟨uMOST_PUTS, gMOST_PUTS, rMOST_PUTS⟩ := gintB_ok X G m_MOST_PUTS
  obtain ⟨uMOST_AT_FIRST, gMOST_AT_FIRST, rMOST_AT_FIRST⟩ := gintB_ok X G m_MOST_AT_FIRST
  obtain ⟨uMOST_DEEP, gMOST_DEEP, rMOST_DEEP⟩ := gintB_ok X G m_MOST_DEEP
  obtain ⟨uMOST_TIMES, gMOST_TIMES, rMOST_TIMES⟩ := gintB_ok X G m_MOST_TIMES
  obtain ⟨uMOST_NAMES, gMOST_NAMES, rMOST_NAMES⟩ := gintB_ok X G m_MOST_NAMES
  obtain ⟨pPT, fdT, FPT⟩ := proB_ok (d := pTests) (c.pro_ pTests List.mem_cons_self) m_pT
  obtain ⟨pPU, fdU, FPU⟩ := proB_ok (d := pPuts) (c.pro_ pPuts (List.mem_cons_of_mem _ List.mem_cons_self)) m_pU
  have bPT := FunD.bindsN (ps := ["self"]) FPT fun _ _ _ _ _ _ us hl => match us, hl with | [_], _ => rfl
  have bPU := FunD.bindsN (ps := ["self"]) FPU fun _ _ _ _ _ _ us hl => match us, hl with | [_], _ => rfl
  have tC : NmC mg := ⟨(fr 68 rfl), (fr 66 rfl), (fr 71 rfl)⟩
  have tN : Nm mg := ⟨(fr 64 rfl), (fr 65 rfl), (fr 66 rfl), (fr 67 rfl)⟩
  have tW : NmW mg := ⟨(fr 68 rfl), (fr 64 rfl), (fr 69 rfl)⟩
  have tR : NmR mg := ⟨tW, (fr 71 rfl), (fr 65 rfl), gg⟩
  have tS : NmN mg := ⟨(fr 68 rfl), (fr 73 rfl), (fr 65 rfl)⟩
  have tL : NmL K mg (He.ga K "LAYERS") := ⟨(gl 54 rfl), fun H => He.tupB_ok m_lays H⟩
  have tSh : ShT K w mg (He.ga K "SHAPES") := ⟨(gl 52 rfl), c.x.t.tab 0 rfl, fun s hs => shpB_ok (List.all_eq_true.mp m_shp s hs)⟩
  have tBr : BrT K w mg (He.ga K "BRANCHES") := ⟨(gl 55 rfl), c.x.t.tab 1 rfl, fun u hu => brB_ok (List.all_eq_true.mp m_br u (by rcases hu with rfl | rfl; exact List.mem_cons_self; exact List.mem_cons_of_mem _ List.mem_cons_self))⟩
  have nSh : ∀ u : Str, u = "if" ∨ u = "repeat" → PySem.W.nsIn K (He.ga K "SHAPES") u = some none := fun u hu => of_decide_eq_true (List.all_eq_true.mp m_shpn u (by rcases hu with rfl | rfl; exact List.mem_cons_self; exact List.mem_cons_of_mem _ List.mem_cons_self))
  have nBr : ∀ s ∈ SHL, PySem.W.nsIn K (He.ga K "BRANCHES") s.1 = some none := fun s hs => of_decide_eq_true (List.all_eq_true.mp m_brn s hs)
  have tSc : TxS K (He.ga K "Script") := ⟨He.cls_ok (d.fact 44 rfl), He.noat_ok (d.fact 45 rfl), He.noat_ok (d.fact 46 rfl), He.noat_ok (d.fact 47 rfl), He.noat_ok (d.fact 48 rfl), He.noat_ok (d.fact 49 rfl), He.noat_ok (d.fact 50 rfl), He.noat_ok (d.fact 51 rfl), He.conB_ok m_conM, He.conB_ok m_conT⟩
  obtain ⟨dsL, vL, bL⟩ := FunD.binds1 (ps := ["value", "layers"]) F18 2 1 (by intro z; cases z) rfl fun T _ _ _ _ _ _ us its h1 h2 => match us, its, h1, h2 with | [_, _], [_], _, _ => ⟨_, rfl, rfl⟩
  have eL : dsL = [] := by
    cases (show Vals [] dsL from vL)
    rfl
  subst eL
  obtain ⟨dsI3, vI3, bI3⟩ := FunD.binds1 (ps := ["kind", "value", "layers"]) F19 3 1 (by intro z; cases z) rfl fun T _ _ _ _ _ _ us its h1 h2 => match us, its, h1, h2 with | [_, _, _], [_], _, _ => ⟨_, rfl, rfl⟩
  have eI3 : dsI3 = [] := by
    cases (show Vals [] dsI3 from vI3)
    rfl
  subst eI3
  obtain ⟨dsA3, vA3, bA3⟩ := FunD.binds1 (ps := ["kinds", "values", "layers"]) F20 3 1 (by intro z; cases z) rfl fun T _ _ _ _ _ _ us its h1 h2 => match us, its, h1, h2 with | [_, _, _], [_], _, _ => ⟨_, rfl, rfl⟩
  have eA3 : dsA3 = [] := by
    cases (show Vals [] dsA3 from vA3)
    rfl
  subst eA3
  obtain ⟨dsLf, vLf, bLf⟩ := FunD.binds1 (ps := ["value", "layers"]) F24 2 1 (by intro z; cases z) rfl fun T _ _ _ _ _ _ us its h1 h2 => match us, its, h1, h2 with | [_, _], [_], _, _ => ⟨_, rfl, rfl⟩
  have eLf : dsLf = [] := by
    cases (show Vals [] dsLf from vLf)
    rfl
  subst eLf
  obtain ⟨dsC3, vC3, bC3⟩ := FunD.binds1 (ps := ["values", "layers", "path"]) F28 3 1 (by intro z; cases z) rfl fun T _ _ _ _ _ _ us its h1 h2 => match us, its, h1, h2 with | [_, _, _], [_], _, _ => ⟨_, rfl, rfl⟩
  have eC3 : dsC3 = [] := by
    cases (show Vals [] dsC3 from vC3)
    rfl
  subst eC3
  obtain ⟨dsN4, vN4, bN4⟩ := FunD.binds1 (ps := ["names", "steps", "path", "first"]) F31 4 2 (by intro z; cases z) rfl fun T _ _ _ _ _ _ us its h1 h2 => match us, its, h1, h2 with | [_, _, _, _], [_, _], _, _ => ⟨_, rfl, rfl⟩
  have eN4 : dsN4 = [] := by
    cases (show Vals [] dsN4 from vN4)
    rfl
  subst eN4
  obtain ⟨dsC2, vC2, bC2⟩ := FunD.binds1 (ps := ["values", "layers", "path"]) F28 2 0 (by intro z; cases z) rfl fun T _ _ _ _ _ _ us its h1 h2 => match us, its, h1, h2 with | [_, _], [_], _, _ => ⟨_, rfl, rfl⟩
  obtain ⟨dsN3, vN3, bN3⟩ := FunD.binds1 (ps := ["names", "steps", "path", "first"]) F31 3 1 (by intro z; cases z) rfl fun T _ _ _ _ _ _ us its h1 h2 => match us, its, h1, h2 with | [_, _, _], [_, _], _, _ => ⟨_, rfl, rfl⟩
  obtain ⟨dsN2, vN2, bN2⟩ := FunD.binds1 (ps := ["names", "steps", "path", "first"]) F31 2 0 (by intro z; cases z) rfl fun T _ _ _ _ _ _ us its h1 h2 => match us, its, h1, h2 with | [_, _], [_, _], _, _ => ⟨_, rfl, rfl⟩
  obtain ⟨dsS, vS, bS⟩ := FunD.binds (ps := PsI) F41 3 1 (by intro z; cases z) rfl (fun T D _ _ _ _ _ us its ks h1 h2 h3 => match us, its, ks, h1, h2, h3 with | [_, _, _], [_], [_], _, _, _ => ⟨_, rfl, _, _, _, _, _, _, rfl, rfl, rfl⟩) (by intro z; cases z)
  have f0 : Fun K "law" "law" sLaw (He.ga K "law") fd0 := fun_of F0
  obtain ⟨oc, od, kV, doc, pm, an, cdv, ct, osl, efd, lk, hcd⟩ := f0.ex
  obtain ⟨c0, hc0⟩ := He.codeIn_ref hcd
  have hcode : fd0.code = .ref c0 := by
    rw [efd]
    exact hc0
  have ec : He.codeOf K ("law", none) = c0 := He.codeOf_eq lk hcode
  have inTf : (("law", none) : He.Defn) ∈ tfs := List.mem_singleton.mpr rfl
  have one : ∀ p ∈ [He.cT K ("law", none)], p = He.cT K ("law", none) := fun p hp => List.mem_singleton.mp hp
  refine ⟨fd0, [He.cT K ("law", none)], spLaw K (He.cT K ("law", none)).2, (fun p hp => by rw [one p hp]; exact c.x.empty _ inTf), (fun p hp => by rw [one p hp]; exact c.x.out _ inTf), (fun p hp => by rw [one p hp]; exact PySem.W.codeHd_of_K X (c.x.hd _ inTf)),
    fun s v => b0 s [v] rfl, fun H a ns hl _ hT hS => ⟨a, ns, rfl, hS, hl, hT _ (List.mem_singleton.mpr rfl), fun _ => rfl⟩, fun base _ _ TB => ?_⟩
  have tb := TB _ (List.mem_singleton.mpr rfl)
  have hc : (He.cT K ("law", none)).1 = c0 := ec
  rw [hc] at tb
  have GCp := ok_copied (P := L.prog) (w := w) (base := base) (fun_of F6) tC (gl 6 rfl) b6 2
  have XTooMany : ErrC L.prog w K mg base "TooMany" ["subject", "most"] (He.ga K "TooMany") 4 2 := errC_of (st := sIni0) (ps := ["self", "subject", "most"]) (c.ini _ List.mem_cons_self) (iniB_ok m_iTooMany) (errB_ok m_eTooMany) (gl 60 rfl) (fun env => ⟨_, rfl⟩) rfl scIni0 rfl rfl GCp rfl (gl 6 rfl) F6.kp b6
    (by decide) (by decide) (by decide) rfl (.fld rfl rfl (.fld rfl rfl (.code rfl))) (fr 79 rfl) rfl fun _ _ _ _ _ _ _ _ us hl => match us, hl with | [_, _, _], _ => rfl
  have XDuplicateName : ErrC L.prog w K mg base "DuplicateName" ["name"] (He.ga K "DuplicateName") 4 2 := errC_of (st := sIni1) (ps := ["self", "name"]) (c.ini _ (List.mem_cons_of_mem _ List.mem_cons_self)) (iniB_ok m_iDuplicateName) (errB_ok m_eDuplicateName) (gl 61 rfl) (fun env => ⟨_, rfl⟩) rfl scIni1 rfl rfl GCp rfl (gl 6 rfl) F6.kp b6
    (by decide) (by decide) (by decide) rfl (.fld rfl rfl (.code rfl)) (fr 79 rfl) rfl fun _ _ _ _ _ _ _ _ us hl => match us, hl with | [_, _], _ => rfl
  have XUnlikeEnds : ErrC L.prog w K mg base "UnlikeEnds" ["path"] (He.ga K "UnlikeEnds") 4 2 := errC_of (st := sIni2) (ps := ["self", "path"]) (c.ini _ (List.mem_cons_of_mem _ (List.mem_cons_of_mem _ List.mem_cons_self))) (iniB_ok m_iUnlikeEnds) (errB_ok m_eUnlikeEnds) (gl 62 rfl) (fun env => ⟨_, rfl⟩) rfl scIni2 rfl rfl GCp rfl (gl 6 rfl) F6.kp b6
    (by decide) (by decide) (by decide) rfl (.fld rfl rfl (.code rfl)) (fr 79 rfl) rfl fun _ _ _ _ _ _ _ _ us hl => match us, hl with | [_, _], _ => rfl
  have XUnknownName : ErrL L.prog w K mg base "UnknownName" ["name"] (He.ga K "UnknownName") 4 2 := errG_of (st := sIni3) (ps := ["self", "name"]) (c.ini _ (List.mem_cons_of_mem _ (List.mem_cons_of_mem _ (List.mem_cons_of_mem _ List.mem_cons_self)))) PySem.W.kxs_LookupError (iniG_ok m_iUnknownName) (errG_ok tailLE m_eUnknownName) (gl 63 rfl) (fun env => ⟨_, rfl⟩) rfl scIni3 rfl rfl GCp rfl (gl 6 rfl) F6.kp b6
    (by decide) (by decide) (by decide) rfl (.fld rfl rfl (.code rfl)) (fr 79 rfl) rfl fun _ _ _ _ _ _ _ _ us hl => match us, hl with | [_, _], _ => rfl
  have A : AskT L.prog w K mg base c0 (He.cT K ("law", none)).2 [.ref (He.ga K "MilesError"), .ref (He.ga K "Missing"), .ref (He.ga K "NothingLeft")] :=
    ⟨⟨_, _, (fun_of F5), (gl 5 rfl), b5⟩, ⟨_, _, ok_fields (fun_of F4), (gl 4 rfl), F4.kp, b4⟩, ⟨_, _, _, rfl, (gl 57 rfl), (gl 58 rfl), (gl 59 rfl)⟩, tb⟩
  have GWh : Fun K "_is_whole" "_is_whole" s__is_whole _ _ := (fun_of F7)
  have FIr : Fun K "is_ratio" "is_ratio" s_is_ratio _ _ := (fun_of F9)
  have GR := ok_ratioOf (P := L.prog) (w := w) (K := K) (mg := mg) (base := base) (fun_of F13) GWh FIr tR (gl 7 rfl) b7 (gl 9 rfl) b9
  have GFi := ok_fig (P := L.prog) (w := w) (K := K) (mg := mg) (base := base) (fun_of F14) (fr 73 rfl)
  have GTx := ok_text (fun_of F15) (fr 72 rfl) GR (gl 13 rfl) F13.kp b13 GFi (gl 14 rfl) F14.kp b14
  have GI := ok_items (fun_of F39) (fr 68 rfl) (fr 73 rfl) GTx (gl 15 rfl) F15.kp b15
  have pw : PW K mg (He.ga K "_item_words") (He.ga K "_bracketed") (He.ga K "_step_words") (He.ga K "_words_of") _ _ _ _ := ⟨(fun_of F38), (fun_of F40), (fun_of F37), (gl 39 rfl), F39.kp, b39, (gl 40 rfl), F40.kp, b40, (gl 38 rfl), F38.kp, b38, (gl 37 rfl), F37.kp, b37⟩
  have GWs := ok_ws2 pw GI
  have GTo := ok_textOf (fun_of F36) GWs (gl 37 rfl) F37.kp b37
  have GD := ok_draw (P := L.prog) (w := w) (K := K) (mg := mg) (base := base) (fun_of F2) tN
  have GSr := ok_source (P := L.prog) (w := w) (K := K) (mg := mg) (base := base) (fun_of F1) tN
  have GNm := ok_name (P := L.prog) (w := w) (K := K) (mg := mg) (base := base) (fun_of F17) tS (fun_of F16) (gl 16 rfl) b16
  have GLy := ok_layer (P := L.prog) (w := w) (K := K) (mg := mg) (base := base) F18 tL
  have GCa := ok_can (P := L.prog) (w := w) (K := K) (mg := mg) (base := base) (fun_of F10) GWh FIr tR (gl 7 rfl) b7 (gl 9 rfl) b9
  have GLn := ok_isLen (fun_of F11) GCa (gl 10 rfl) F10.kp b10 GR (gl 13 rfl) F13.kp b13
  have GSc := ok_isScale (fun_of F12) GCa (gl 10 rfl) F10.kp b10 GR (gl 13 rfl) F13.kp b13
  have GTo1 := ok_timesOf (P := L.prog) (w := w) (K := K) (mg := mg) (base := base) (fun_of F23)
  have GIn := ok_inner (P := L.prog) (w := w) (K := K) (mg := mg) (base := base) (fun_of F22)
  have GCs := ok_count (fun_of F29) (fr 75 rfl) GTo1 (gl 23 rfl) F23.kp b23 GIn (gl 22 rfl) F22.kp b22 (gl 29 rfl) F29.kp b29
  have GCw := ok_countW (fun_of F30) (fr 75 rfl) (fr 65 rfl) GTo1 (gl 23 rfl) F23.kp b23 GIn (gl 22 rfl) F22.kp b22 (gl 30 rfl) F30.kp b30
  have GWt := ok_within (P := L.prog) (w := w) (K := K) (mg := mg) (base := base) (fun_of F8) GWh tW (gl 7 rfl) b7
  have GIL := ok_itemL F19 (fr 68 rfl) (fr 71 rfl) gMOST_TIMES rMOST_TIMES GLy (gl 18 rfl) F18.kp bL GLn (gl 11 rfl) F11.kp b11 GSc (gl 12 rfl) F12.kp b12 GWt (gl 8 rfl) F8.kp b8 GNm (gl 17 rfl) F17.kp b17
  have GAi := ok_areIt F20 (fr 76 rfl) (fr 77 rfl) (fr 65 rfl) GIL (gl 19 rfl) F19.kp bI3
  have GLf := ok_leafIs F24 (fr 68 rfl) (fr 71 rfl) (fr 73 rfl) tSh nSh GAi (gl 20 rfl) F20.kp bA3
  have GSi := ok_stepIs (fun_of F27) (fr 68 rfl) (fr 71 rfl) (fr 73 rfl) tBr GAi (gl 20 rfl) F20.kp bA3 GLf (gl 24 rfl) F24.kp bLf
  have GCk := ok_chk F28 (fr 78 rfl) (fr 65 rfl) gMOST_DEEP rMOST_DEEP GSi (gl 27 rfl) F27.kp b27 GIn (gl 22 rfl) F22.kp b22 (gl 28 rfl) F28.kp bC3 4
  have GCl := ok_checkLs (fun_of F26) GWt (gl 8 rfl) F8.kp b8
  have GCn1 := ok_checkNs (fun_of F25) (fr 78 rfl) (fr 65 rfl) gMOST_AT_FIRST rMOST_AT_FIRST GNm (gl 17 rfl) F17.kp b17
  have GCn2 := ok_checkNt (fun_of F25) (fr 78 rfl) (fr 65 rfl) gMOST_AT_FIRST rMOST_AT_FIRST GNm (gl 17 rfl) F17.kp b17
  have GKn := ok_known (P := L.prog) (w := w) (K := K) (mg := mg) (base := base) (fun_of F21) (fr 76 rfl) tSh tBr nBr
  have GWi := ok_with (CU := He.ga K "UnknownName") (CE := He.ga K "UnlikeEnds") (fun_of F35) (fr 65 rfl) gMOST_NAMES rMOST_NAMES XDuplicateName XTooMany
  have GNb := ok_nb F31 (gl 31 rfl) F31.kp bN4 bN3 vN3 (fun_of F32) (gl 32 rfl) F32.kp b32 (fun_of F33) (gl 33 rfl) F33.kp b33 (fun_of F34) (gl 34 rfl) F34.kp b34 GKn (gl 21 rfl) F21.kp b21 GWi (gl 35 rfl) F35.kp b35 GCw (gl 30 rfl) F30.kp b30 GTo1 (gl 23 rfl) F23.kp b23 GIn (gl 22 rfl) F22.kp b22 XUnknownName XUnlikeEnds (fr 78 rfl) (fr 65 rfl) (fr 70 rfl) 2
  have GSI := ok_initSc F41 tSc (fr 74 rfl) (fr 71 rfl) gMOST_PUTS rMOST_PUTS (FnOk.or GCn1 GCn2) (gl 25 rfl) F25.kp b25 GCl (gl 26 rfl) F26.kp b26 GCk (gl 28 rfl) F28.kp bC2 vC2 (fun H => nilB_ok m_nC H) (GCw 4) (gl 30 rfl) F30.kp b30 (GCs 4) (gl 29 rfl) F29.kp b29 GNb (gl 31 rfl) F31.kp bN2 vN2 (fun H => nilB_ok m_nB H) GTo (gl 36 rfl) F36.kp b36 XTooMany
  have MI : Mk K (He.ga K "Script") _ := He.mkr_ok (d.fact 41 rfl)
  refine ok_law (C := (He.ga K "Script")) (CU := He.ga K "UnknownName") (CD := He.ga K "DuplicateName") (CM := He.ga K "TooMany") (CE := He.ga K "UnlikeEnds") (c := c0) (cs := [.ref (He.ga K "MilesError"), .ref (He.ga K "Missing"), .ref (He.ga K "NothingLeft")]) f0 hcode ?_
  exact {
    src := ⟨_, _, ⟨GSr, (gl 1 rfl), F1.kp, b1⟩⟩
    draw := ⟨_, _, ⟨GD, (gl 2 rfl), F2.kp, b2⟩⟩
    same := ⟨_, _, ok_same (P := L.prog) (w := w) (K := K) (mg := mg) (base := base) (fun_of F3) tN, (gl 3 rfl), F3.kp, b3⟩
    init := ⟨_, _, _, GSI, MI, bS, vS⟩
    tests := ⟨_, _, _, ok_kTests (P := L.prog) (w := w) (K := K) (mg := mg) (base := base) (fun_of FPT) tSc, pPT, bPT⟩
    puts := ⟨_, _, _, ok_kPuts (P := L.prog) (w := w) (K := K) (mg := mg) (base := base) (fun_of FPU) tSc, pPU, bPU⟩
    len_ := ⟨_, ⟨VG.FnOk.toR (ok_kLen (P := L.prog) (w := w) (K := K) (mg := mg) (base := base) (fun_of F42) tSc (fr 65 rfl)) b42, (He.meth_ok (d.fact 42 rfl)).at_, (He.meth_ok (d.fact 42 rfl)).fn⟩⟩
    ask := A
    own := ⟨fun x => match x with | .inl (.unknown _) => (errG_ok tailLE m_eUnknownName).own | .inl (.dup _) => (errB_ok m_eDuplicateName).own | .inl .many => (errB_ok m_eTooMany).own | .inl (.ends _) => (errB_ok m_eUnlikeEnds).own | .inr _ => (errB_ok m_eTooMany).own, fun x => match x with | .inl (.unknown _) => of_decide_eq_true m_xUnknownName | .inl (.dup _) => of_decide_eq_true m_xDuplicateName | .inl .many => of_decide_eq_true m_xTooMany | .inl (.ends _) => of_decide_eq_true m_xUnlikeEnds | .inr _ => of_decide_eq_true m_xTooMany⟩
    cls := tSc
    script := (gl 43 rfl)
    rng := (fr 70 rfl)
    len := (fr 65 rfl)
    tpl := (fr 71 rfl) }
end Lw

set_option maxRecDepth 100000
set_option maxHeartbeats 0
open PySem PySem.W PySem.Calls PyProof.Rows
theorem PySem.Challenge.cw_missingmiles_k27_sizes_of_scripts_refuse_holds : PySem.Challenge.rw_missingmiles_k27_sizes_of_scripts_refuse.Holds := by
  w_on; o_law
  refine HandSHeadRun.head_imp (r := OpenLaw.row PySem.Challenge.rw_missingmiles_k27_sizes_of_scripts_refuse) (q := view (OpenLaw.row PySem.Challenge.rw_missingmiles_k27_sizes_of_scripts_refuse).prog [0, 84]) (H := Lw.hk) (ob := Lw.ob) (M := 8000) (loose := Lw.loose)
    (d := HandSHeadRun.topDef (OpenLaw.row PySem.Challenge.rw_missingmiles_k27_sizes_of_scripts_refuse).prog 84) (kwd := []) Lw.ob_eq Lw.run
    (by kernel_rfl) (by kernel_rfl) (by kernel_rfl) (by rfl) (by first | assumption | decide +kernel) (by decide +kernel) ⟨rfl, rfl, rfl, rfl, rfl, by decide +kernel⟩ ?hw ?hc
  case hw => w_witness2
  case hc =>
    refine VG.walkGE (l := PySem.Challenge.rw_missingmiles_k27_sizes_of_scripts_refuse) (n := 63) (k := 23) (x := "_law_script_z") (CX := fun _ => L2.CX0) rfl (by decide) (by kernel_rfl) ⟨rfl, by decide, by decide⟩ ?F (fun _ _ _ _ _ z => z)
    intro w mg fa h Y G hmg0
    obtain ⟨K, KX, c⟩ := Y
    have e : (HandSHeadRun.topDef (OpenLaw.row PySem.Challenge.rw_missingmiles_k27_sizes_of_scripts_refuse).prog 84).name = ("law" : PySem.Str) := by kernel_rfl
    rw [e] at hmg0
    exact ⟨K, KX, Lw.facts KX G hmg0 c⟩

