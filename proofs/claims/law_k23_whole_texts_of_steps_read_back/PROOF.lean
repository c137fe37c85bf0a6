import PyProof.Rows.All
import Wide.All
import OpenK.AllK
import Wide.FinOn
import PyProof.ReprBulk
import HandS.Base
import HandS.Call
import HandS.List
import HandS.Ends
import HandS.Words
import HandS.Lambda
import HandS.EndBits
import HandS.EndTab
import HandS.Defaults
import HandS.Deep
import HandS.TupAny
import HandS.Exc
import HandS.ExcInit
import HandS.WordsExc
import HandS.TryOnly
import KE.KExcSuper
import KE.KExcMake
import HandS.ClsMeth
import KE.KTypeName
import KE.KTryMore
import HandS.HotCalls
import HandS.ExcField
import HandS.ForMost
import HandS.Wide
import HandS.Codes
import HandS.IsInst
import HandS.StrMore
import HandS.Walk
import PySem.Challenge.RW_missingmiles_k23_whole_texts_of_steps_re
import HandS.Star
import HandS.HeadHook4
import HandS.SlotsOwn
import PyProof.InstNe
import OpenK.KOps
import HandS.Comp
import HandS.FStr
import HandS.Zip
import KE.GoesZip
import KE.GoesMore
import KE.GoesEnum
import HandS.Gcd
import HandS.Style
import HandS.DictComp
import OpenK.KMeth
import HandS.Conv
import PyProof.ListStr
import KE.KUnpackStar
import HandS.More
import HandS.Property
import PyProof.MeetsIn
import HandS.WordsDict
import HandS.Head0
import HandS.Head1
import HandS.Head2
import HandS.Head3
set_option Elab.async false
set_option maxRecDepth 100000
/-! Data that is small enough to be shown; calls made where no repr is under way; the law's end for such calls. -/
namespace VG
open PySem PySem.Spec PyProof.Rows L2

/-! ### small data -/
mutual
def sm : PyData → Bool
  | .none => true
  | .bool _ => true
  | .int i => decide (i.natAbs < 10 ^ 90)
  | .str x => PyData.strOk x
  | .list xs => smAll xs
  | .tuple xs => smAll xs
  | .dict _ => false
def smAll : List PyData → Bool
  | [] => true
  | x :: xs => sm x && smAll xs
end
theorem pow90 : (10 : Nat) ^ 90 < 2 ^ 1900 := by decide +kernel
theorem log_of {n : Nat} (h : n < 10 ^ 90) : n.log2 < 1920 := by
  by_cases z : n = 0
  · subst z
    decide
  · have q : n.log2 < 1900 := (Nat.log2_lt z).mpr (Nat.lt_trans h pow90)
    exact Nat.lt_of_lt_of_le q (by decide)
theorem signs_small {x : Str} (h : PyData.strOk x = true) : ∀ c ∈ x.cps.toList, c < 16 ^ 8 := fun c hc => by
  have q := Array.all_eq_true_iff_forall_mem.mp h c (Array.mem_toList_iff.mp hc)
  have q2 : c < 1114112 := of_decide_eq_true q
  exact Nat.lt_trans q2 (by decide)
theorem int_len {i : Int} (h : i.natAbs < 10 ^ 90) : (PyData.int i).shown.length ≤ 100 := by
  rw [PyData.shown_int, _root_.PySem.ofString_length]
  exact Nat.le_trans (int_text_length_le10 (k := 90) (by decide) h) (by decide)
mutual
theorem sm_all : ∀ d : PyData, sm d = true → (d.showable = true ∧ d.hasDict = false) ∧ d.leavesShort 100 = true ∧ d.canLay0 = true
  | .none, _ => ⟨⟨rfl, rfl⟩, rfl, rfl⟩
  | .bool _, _ => ⟨⟨rfl, rfl⟩, rfl, rfl⟩
  | .int i, h => by
    have q : i.natAbs < 10 ^ 90 := of_decide_eq_true (by simpa only [sm] using h)
    exact ⟨⟨by simp only [PyData.showable]; exact decide_eq_true (log_of q), by simp only [PyData.hasDict]⟩, by simp only [PyData.leavesShort]; exact decide_eq_true (int_len q), by simp only [PyData.canLay0]⟩
  | .str x, h => by
    have q : PyData.strOk x = true := by simpa only [sm] using h
    refine ⟨⟨by simp only [PyData.showable], by simp only [PyData.hasDict]⟩, ?_, by simp only [PyData.canLay0]; exact q⟩
    simp only [PyData.leavesShort]
    exact List.all_eq_true.mpr fun c hc => decide_eq_true (signs_small q c hc)
  | .list xs, h => by
    obtain ⟨⟨a, b⟩, c, e⟩ := sm_alls xs (by simpa only [sm] using h)
    exact ⟨⟨by simp only [PyData.showable]; exact a, by simp only [PyData.hasDict]; exact b⟩, by simp only [PyData.leavesShort]; exact c, by simp only [PyData.canLay0]; exact e⟩
  | .tuple xs, h => by
    obtain ⟨⟨a, b⟩, c, e⟩ := sm_alls xs (by simpa only [sm] using h)
    exact ⟨⟨by simp only [PyData.showable]; exact a, by simp only [PyData.hasDict]; exact b⟩, by simp only [PyData.leavesShort]; exact c, by simp only [PyData.canLay0]; exact e⟩
  | .dict _, h => by simp [sm] at h
theorem sm_alls : ∀ xs : List PyData, smAll xs = true → (PyData.showableAll xs = true ∧ PyData.hasDictAll xs = false) ∧ PyData.leavesShortAll 100 xs = true ∧ PyData.canLayAll0 xs = true
  | [], _ => ⟨⟨rfl, rfl⟩, rfl, rfl⟩
  | x :: xs, h => by
    have h' : sm x = true ∧ smAll xs = true := by simpa only [smAll, Bool.and_eq_true] using h
    obtain ⟨⟨a, b⟩, c, e⟩ := sm_all x h'.1
    obtain ⟨⟨a', b'⟩, c', e'⟩ := sm_alls xs h'.2
    simp only [PyData.showableAll, PyData.hasDictAll, PyData.leavesShortAll, PyData.canLayAll0, a, b, c, e, a', b', c', e', Bool.and_self, Bool.or_self, and_self]
end
/-- d may be shown, and compared: its leaves are small, it is neither deep nor long -/
structure Sm (d : PyData) : Prop where
  sm : sm d = true
  dp : d.depth ≤ 40
  bk : d.bulk ≤ 100000
theorem Sm.fits {d : PyData} (h : Sm d) : d.shown.length ≤ sizeLine := by
  have q := PyData.shown_le_bulk 100 (by decide) d (sm_all d h.sm).2.1
  have b := h.bk
  have e : (100 + 2) * d.bulk ≤ 102 * 100000 := Nat.mul_le_mul (by decide) b
  rw [sizeLine_eq]
  omega
theorem Sm.shaped {d : PyData} (h : Sm d) : SeqAt.shaped d = true := by
  have e := (sm_all d h.sm).2.2
  have f : d.depth ≤ 64 := Nat.le_trans h.dp (by decide)
  show (d.canLay0 && decide (d.depth ≤ 64)) = true
  rw [e, decide_eq_true f]
  rfl

/-! ### repr of data, where no repr is under way -/
def rRepr (K : PySem.W.Frag) : List V → Hp → VK → Prop := fun xs H Q => ∃ x d, xs = [x] ∧ Dp K H x d ∧ Sm d ∧ Q (.str d.shown) H
section
variable {X : Cx}
theorem call_repr (hG : X.A.guards = some []) (hu : X.A.units + 64 < cLine) : CallR X (.builtin "repr") (rRepr X.K) := by
  intro pins s σ H xs us Q I r h
  obtain ⟨x, d, rfl, hd, hS, q⟩ := h
  obtain ⟨u, rfl, r1⟩ := vals1 r
  have fit := hS.fits
  obtain ⟨⟨hs, hn⟩, _, _⟩ := sm_all d hS.sm
  obtain ⟨as, rd⟩ := Dp.reads I d x u hd r1
  cases hd with
  | non =>
    cases r1
    refine PySem.P.repr_of_none ⟨.str _, H, I.tok _, ⟨_, rfl⟩, ?_⟩
    rw [PyData.shown_none] at q
    exact q
  | bl b =>
    cases r1
    refine PySem.P.repr_of_bool ⟨.str _, H, I.tok _, ⟨_, rfl⟩, ?_⟩
    rw [PyData.shown_bool] at q
    cases b <;> exact q
  | int i =>
    obtain ⟨t, rfl⟩ := r1
    have z : i.natAbs < 10 ^ 90 := of_decide_eq_true (by simpa only [VG.sm] using hS.sm)
    exact PySem.P.repr_of_int (log_of z) ⟨.str _, H, I.tok _, ⟨_, rfl⟩, by rw [PyData.shown_int] at q; exact q⟩
  | str y =>
    obtain ⟨t, rfl⟩ := r1
    rw [PyData.shown_str] at q fit
    exact PySem.P.repr_of_str ⟨.str _, H, I.tok _, ⟨_, rfl⟩, q⟩ fit
  | lst hl ha =>
    cases r1
    exact repr_of_reads' rd hs (PyData.noDict_hsm hn) hG (by have := hS.dp; omega) (fun _ _ e => e) (fun h' u tk hk => ⟨.str _, H, I.kept hk, ⟨_, rfl⟩, q⟩) fit
  | tup hl ha =>
    cases r1
    exact repr_of_reads' rd hs (PyData.noDict_hsm hn) hG (by have := hS.dp; omega) (fun _ _ e => e) (fun h' u tk hk => ⟨.str _, H, I.kept hk, ⟨_, rfl⟩, q⟩) fit
end

/-! ### defs that are called where no repr is under way -/
structure FnG (P : Program) (w : World) (K : PySem.W.Frag) (mg : Str → Option Value) (base : Heap) (CX : CXT) (k : Nat) (f : Addr) (fd : FuncData) (ps : List Str) (sp : Sp) : Prop where
  many : ∀ vs H Q E, sp vs H Q E → vs.length = ps.length
  runs : ∀ (A : Around) (outer : List Env) (s : Shared) (H : Hp) (args : Args) (us : List Value) (vs : List V) (Q : VK) (E : XK), A.guards = some [] → Room k A → Env0 P w K mg base A outer s H →
    BindsTo s fd args (ps.zip us) → Vals vs us → sp vs H Q E → codeAny (model P w) A (.call (.ref f) args) (CR CX outer P w H s Q E) s
section
variable {P : Program} {w : World} {K : PySem.W.Frag} {mg : Str → Option Value} {base : Heap}
theorem okG {x qual : Str} {st : Stmt} {f : Addr} {fd : FuncData} {N ps : List Str} {k : Nat} {sp : Sp} (F : Fun K x qual st f fd) (S : FnScope N ps (defScope st)) (many : ∀ vs H Q E, sp vs H Q E → vs.length = ps.length)
    (body : ∀ (cdv : Value) (A : Around) (outer : List Env) (s : Shared) (H : Hp) (vs : List V) (Q : VK) (E : XK), A.guards = some [] → Room k (A.deeper (envOfC qual (defScope st) s.heap.objs.size f cdv)) → sp vs H Q E →
      ∃ t, PSs (cxOf CX0 P w K mg base N qual (defScope st) f cdv A outer s H E).nox (defBody st) t ∧
        t { nx := fun _ H' => Q .non H', rt := Q } (L2.start N vs) H) : FnG P w K mg base CX0 (k + 1) f fd ps sp := by
  obtain ⟨oc, od, kV, doc, pm, an, cdv, ct, osl, rfl, lk, hcd⟩ := F.ex
  refine ⟨many, fun A outer s H args us vs Q E hG hr e0 hb r q => ?_⟩
  refine LamX.run_ofS lk hcd S hr e0 hb r (many _ _ _ _ q) fun hr' => ?_
  obtain ⟨t, h1, h2⟩ := body cdv A outer s H vs Q E hG hr' q
  exact ⟨t, h1.nox, h2⟩
end
section
variable {X : Cx} {CX : CXT} {k : Nat} {f : Addr} {fd : FuncData} {ps : List Str} {sp : Sp} {dvs : List V} {ds : List Value} {E : XK} {x : Str} {p pos : Pos} {e : Expr} {es : List Expr} {t : TA}
theorem pe_callG (F : FnG X.prog X.w X.K X.mg X.base CX k f fd ps sp) (hG : X.A.guards = some []) (hr : Room k X.A) (hg : Gl X x) (hm : X.mg x = some (.ref f)) (hk : PySem.W.keepIn X.K (.ref f) = true) (hb : Binds X.K fd ps ds) (hd : Vals dvs ds)
    (hx : Passes CX X E) (ha : PA X (e :: es) t) (n1 : (x == ("__debug__" : Str)) = false := by decide) (n2 : starEach (e :: es) X.env = (false, eval e X.env) :: starEach es X.env := by rfl)
    (n3 : (backTo pos (starEach es X.env)).any (·.1) = false := by rfl) : PE X (.Call (.Name x p) (e :: es) [] pos) (tCall sp dvs E t) := by
  refine ⟨fun pins s σ H Q I q0 => wpAny_Call_Name_kw (ld_glob I hg hm (PySem.W.callWith_K (h₀ := X.base) I.ok.mod.kin hk (thn (ha.run pos pins s σ H _ I q0) fun us s1 ⟨vs, H1, I1, r, q⟩ => ⟨I1.kIn, ?_⟩) n2 n3) n1)⟩
  have r2 : Vals (vs ++ dvs) (us ++ ds) := r.append hd
  have l2 : (us ++ ds).length = ps.length := r2.length.symm.trans (F.many _ _ _ _ q)
  refine wpAny_call (codeAny_mono (F.runs X.A X.stack s1 H1 ⟨us, []⟩ (us ++ ds) (vs ++ dvs) Q E hG hr I1.env0 (hb s1 us I1.kIn l2) r2 q) fun res s' z => ?_)
  match res, z with
  | .error err, z => exact hx pins σ H1 s1 err s' I1 z
  | .ok (.ret u), z => exact I1.after z
  | .ok .next, z => exact z.elim
  | .ok .brk, z => exact z.elim
  | .ok .cont, z => exact z.elim
end
end VG

set_option maxRecDepth 100000
/-! The law's end where the law's promise asks that no repr is under way. -/
namespace VG
open PySem PySem.Spec PyProof.Rows L2 LamX

def tabObj : Obj := { cls := .none, data := .fields #[] }
def scriptObj (vs : List Value) : Obj := { cls := .type "list", data := .seq vs.toArray }
/-- what is tracked where the law is called: the tables, and the script where sc says so -/
def laidAt (cs : List (Addr × Addr)) (a : Addr) (vs : List Value) (ns : List Int) (sc : Bool) : Hp := fun b =>
  if b ∈ cs.map (·.2) then some (.tbl #[]) else if sc = true ∧ b = a then some (.frz (scriptObj vs) (.lst (ns.map V.int))) else none
theorem laid_tab {cs : List (Addr × Addr)} {a : Addr} {vs : List Value} {ns : List Int} {sc : Bool} {b : Addr} (h : b ∈ cs.map (·.2)) : laidAt cs a vs ns sc b = some (.tbl #[]) := if_pos h
theorem laid_script {cs : List (Addr × Addr)} {a : Addr} {vs : List Value} {ns : List Int} (h : a ∉ cs.map (·.2)) : laidAt cs a vs ns true a = some (.frz (scriptObj vs) (.lst (ns.map V.int))) := by
  unfold laidAt
  rw [if_neg h, if_pos ⟨rfl, rfl⟩]
theorem laid_cases {cs : List (Addr × Addr)} {a : Addr} {vs : List Value} {ns : List Int} {sc : Bool} {b : Addr} {u : HO} (h : laidAt cs a vs ns sc b = some u) :
    (b ∈ cs.map (·.2) ∧ u = .tbl #[]) ∨ (sc = true ∧ b = a ∧ u = .frz (scriptObj vs) (.lst (ns.map V.int))) := by
  unfold laidAt at h
  by_cases h1 : b ∈ cs.map (·.2)
  · rw [if_pos h1] at h
    exact .inl ⟨h1, (Option.some.inj h).symm⟩
  · rw [if_neg h1] at h
    by_cases h2 : sc = true ∧ b = a
    · rw [if_pos h2] at h
      exact .inr ⟨h2.1, h2.2, (Option.some.inj h).symm⟩
    · rw [if_neg h2] at h
      cases h

theorem law_runG {P : Program} {w : World} {K : PySem.W.Frag} {mg mb : Str → Option Value} {CX : CXT} {k : Nat} {fa a : Addr} {cs : List (Addr × Addr)} {fd : FuncData} {x : Str} {sp : Sp} {s₁ : Shared} {vs : List Value} {ns : List Int}
    (KX : K.In s₁.heap) (hns : s₁.heap.Ns mainGlobals mg) (hb : s₁.heap.Ns builtinsNs mb) (hbb : ∀ x : Str, x ≠ "__name__" → mb x = bootBuiltins x) (hlim : s₁.heap.NoLimit)
    (hgen : s₁.gens = #[]) (hT : ∀ p ∈ cs, s₁.heap.get? p.2 = some tabObj) (nT : ∀ p ∈ cs, K.lookup p.2 = none) (C : ∀ p ∈ cs, PySem.W.CodeHd s₁.heap p.1 p.2)
    (hbm : ∃ (bm : Addr) (ob : Obj), mg "__builtins__" = some (.ref bm) ∧ bm ≠ builtinsNs ∧
      s₁.heap.get? bm = some ob ∧ ob.cls = .type "module" ∧ ob.dict = some builtinsNs ∧ ob.data = .plain)
    (ha : s₁.heap.get? a = some (scriptObj vs)) (hi : IntsAre vs ns) (hl : ns.length ≤ sizeLine) (hr : Room k callerA)
    (F : ∀ base : Heap, K.In base → base.Ns mainGlobals mg → (∀ p ∈ cs, TabB base mg p.1 p.2) → FnG P w K mg base CX k fa fd [x] sp)
    (bind1 : ∀ (s : Shared) (u : Value), BindsTo s fd ⟨[u], []⟩ [(x, u)])
    (kept : ∀ H : Hp, (∀ p ∈ cs, H p.2 = some (.tbl #[])) → SqL K H a (ns.map V.int) → sp [.ref a] H (fun v _ => v = .bl true) fun _ _ _ => False)
    (noX : ∀ H e s', CX [] H s₁ (fun _ _ _ => False) e s' → False) :
    codeAny (model P w) callerA (.call (.ref fa) ⟨[.ref a], []⟩)
      (fun r s' => r = .ok (.ret (.bool true)) ∧ OldK s₁.heap s'.heap ∧ s'.os = s₁.os ∧ AllBare s'.gens) s₁ := by
  have rv : Vals (ns.map V.int) vs := vals_ints hi
  have tabOf : ∀ b, b ∈ cs.map (·.2) → ∃ p ∈ cs, p.2 = b := fun b z => List.mem_map.mp z
  have inTab : ∀ p ∈ cs, p.2 ∈ cs.map (·.2) := fun p hp => List.mem_map.mpr ⟨p, hp, rfl⟩
  have atTab : ∀ b, b ∈ cs.map (·.2) → s₁.heap.get? b = some tabObj := fun b z => by
    obtain ⟨p, hp, rfl⟩ := tabOf b z
    exact hT p hp
  have aNo : a ∉ cs.map (·.2) := fun z => by
    have q := ha.symm.trans (atTab a z)
    have q2 : Data.seq vs.toArray _ = Data.fields #[] := congrArg Obj.data (Option.some.inj q)
    cases q2
  -- sc: is the script tracked (else it is one of the module's own objects)
  obtain ⟨sc, hsc, hseq⟩ : ∃ sc : Bool, (sc = true → K.lookup a = none) ∧ SqL K (laidAt cs a vs ns sc) a (ns.map V.int) := by
    cases hk : K.lookup a with
    | none => exact ⟨true, fun _ => rfl, .inl (.inr ⟨_, laid_script aNo⟩)⟩
    | some o =>
      have q := ha.symm.trans (KX a o hk)
      cases q
      refine ⟨false, fun z => (nomatch z), .inr ⟨_, vs.toArray, _, hk, rfl, rfl, rfl, ?_, by simpa using rv⟩⟩
      rw [List.size_toArray]
      exact hi.length ▸ hl
  generalize hH : laidAt cs a vs ns sc = H at hseq
  have tabH : ∀ p ∈ cs, H p.2 = some (.tbl #[]) := fun p hp => by
    rw [← hH]
    exact laid_tab (inTab p hp)
  have casesH : ∀ {b u}, H b = some u → (b ∈ cs.map (·.2) ∧ u = .tbl #[]) ∨ (sc = true ∧ b = a ∧ u = .frz (scriptObj vs) (.lst (ns.map V.int))) := fun {b u} q => by
    rw [← hH] at q
    exact laid_cases q
  have hok : HOk P w H s₁.heap := fun b u q => by
    rcases casesH q with ⟨z, rfl⟩ | ⟨_, rfl, rfl⟩
    · exact atTab b z
    · exact ⟨ha, by rw [List.length_map]; exact hl, vs, _, rv, ha⟩
  -- an object of another data is not tracked
  have other : ∀ {b : Addr} {o : Obj}, s₁.heap.get? b = some o → o.data ≠ tabObj.data → o.data ≠ (scriptObj vs).data → H b = none := fun {b o} e n1 n2 => by
    cases q : H b with
    | none => rfl
    | some u =>
      rcases casesH q with ⟨z, _⟩ | ⟨_, z, _⟩
      · exact (n1 (congrArg Obj.data (Option.some.inj (e.symm.trans (atTab b z))))).elim
      · exact (n2 (congrArg Obj.data (Option.some.inj (e.symm.trans (z ▸ ha))))).elim
  have keeps : ∀ {b : Addr} {o : Obj}, s₁.heap.get? b = some o → o.data ≠ tabObj.data → o.data ≠ (scriptObj vs).data → (hidT s₁.heap H).get? b = some o := fun e n1 n2 => hidT_get e (other e n1 n2)
  have nsK : ∀ {b : Addr} {m : Str → Option Value}, s₁.heap.Ns b m → (hidT s₁.heap H).Ns b m := fun ⟨o, es, ep, e, d, r⟩ =>
    ⟨o, es, ep, keeps e (fun z => by rw [d] at z; cases z) (fun z => by rw [d] at z; cases z), d, r⟩
  have hKb : K.In (hidT s₁.heap H) := fun b o e => hidT_get (KX b o e) (by
    cases q : H b with
    | none => rfl
    | some u =>
      rcases casesH q with ⟨z, _⟩ | ⟨z1, z, _⟩
      · obtain ⟨p, hp, rfl⟩ := tabOf b z
        rw [nT p hp] at e
        cases e
      · rw [z, hsc z1] at e
        cases e)
  have hM : L2.Mod K mg (hidT s₁.heap H) := ⟨hKb, nsK hns, ⟨mb, nsK hb, hbb⟩, let ⟨mc, h1, h2⟩ := hlim; ⟨mc, nsK h1, h2⟩⟩
  have TB : ∀ p ∈ cs, TabB (hidT s₁.heap H) mg p.1 p.2 := fun p hp => by
    refine ⟨?_, ?_, fun z => ?_⟩
    · obtain ⟨o, us, file, tf, flags, tg, inF, text, tt, e1, r1, r2, r3, r4, r5, r6, r7, r8, hne⟩ := C p hp
      refine ⟨o, us, file, tf, flags, tg, inF, text, tt, keeps e1 (fun z => ?_) (fun z => ?_), r1, r2, r3, r4, r5, r6, r7, r8, hne⟩
      · have z2 := r2.symm.trans z
        cases z2
        simp at r3
      · have z2 := r2.symm.trans z
        cases z2
    · obtain ⟨bm, ob, b1, b2, b3, b4, b5, b6⟩ := hbm
      refine ⟨bm, ob, b1, b2, fun q => ?_, fun q => ?_, keeps b3 (fun z => ?_) (fun z => ?_), b4, b5, b6⟩
      · obtain ⟨o, es, ep, e, hd, _⟩ := hns
        have z := Option.some.inj ((q ▸ b3).symm.trans e)
        rw [← z, b6] at hd
        cases hd
      · have z := Option.some.inj ((q ▸ b3).symm.trans (hT p hp))
        rw [z] at b6
        cases b6
      · have z2 := b6.symm.trans z
        cases z2
      · have z2 := b6.symm.trans z
        cases z2
    · obtain ⟨o, es, ep, e, hd, _⟩ := hns
      have z2 := Option.some.inj ((z ▸ e).symm.trans (hT p hp))
      rw [z2] at hd
      cases hd
  have e0 : Env0 P w K mg (hidT s₁.heap H) callerA [] s₁ H :=
    ⟨rfl, hM, fun b o e => of_hidT e, Nat.le_of_eq (hidT_size _ _), trivial, fun b z => absurd (show b ∈ ([] : List Addr) from z) (by simp), hok, .of_eq hgen⟩
  refine codeAny_mono ((F _ hKb (nsK hns) TB).runs callerA [] s₁ H ⟨[.ref a], []⟩ [.ref a] [.ref a] _ _ rfl hr e0 (bind1 s₁ (.ref a)) (.cons rfl .nil) (kept H tabH hseq)) fun r s' z => ?_
  match r, z with
  | .error e, z => exact (noX H e s' z).elim
  | .ok .next, z => exact z.elim
  | .ok .brk, z => exact z.elim
  | .ok .cont, z => exact z.elim
  | .ok (.ret u), z =>
    obtain ⟨v, H', os, bare, un, hok', r', q⟩ := z
    have q1 : v = .bl true := q
    subst q1
    obtain rfl : u = Value.bool true := r'
    -- all but the tables is as it was
    have old : ∀ b o, b ∉ cs.map (·.2) → s₁.heap.get? b = some o → s'.heap.get? b = some o := fun b o nb e => by
      cases q : H b with
      | none => exact un.keep b o e q (fun z => absurd (show b ∈ ([] : List Addr) from z) (by simp)) (by simp)
      | some u =>
        rcases casesH q with ⟨z, _⟩ | ⟨_, rfl, rfl⟩
        · exact absurd z nb
        · obtain ⟨e2, _⟩ := hok' b _ (un.frzs b _ _ q)
          rw [ha] at e
          rw [← e]
          exact e2
    have grew : ∀ p ∈ cs, ∃ more : Array Value, s'.heap.get? p.2 = some { cls := .none, data := .fields more } := fun p hp => by
      obtain ⟨more, z⟩ := un.tbls p.2 #[] (tabH p hp)
      exact ⟨_, hok' p.2 _ z⟩
    refine ⟨rfl, ⟨fun b o e => ?_, fun b o e => ?_⟩, os, bare⟩
    · by_cases z : b ∈ cs.map (·.2)
      · obtain ⟨p, hp, rfl⟩ := tabOf b z
        obtain ⟨more, hm⟩ := grew p hp
        have e2 := Option.some.inj (e.symm.trans (hT p hp))
        rw [e2]
        exact .inr (.inl ⟨((C p hp).tab (hT p hp)).isCodeTable, rfl, #[], more, rfl, by rw [Array.empty_append]; exact hm⟩)
      · exact .inl (old b o z e)
    · by_cases z : b ∈ cs.map (·.2)
      · obtain ⟨p, hp, rfl⟩ := tabOf b z
        obtain ⟨more, hm⟩ := grew p hp
        exact ⟨_, hm⟩
      · exact ⟨o, old b o z e⟩

/-- what is known of the law's promise at the head's heap h -/
def LawG (l : PySem.W.OpenLaw) (w : World) (K : PySem.W.Frag) (CX : CXT) (k n : Nat) (x : Str) (mg : Str → Option Value) (fa : Addr) (h : Heap) : Prop :=
  ∃ (fd : FuncData) (cs : List (Addr × Addr)) (sp : Sp), (∀ p ∈ cs, h.get? p.2 = some tabObj) ∧ (∀ p ∈ cs, K.lookup p.2 = none) ∧ (∀ p ∈ cs, PySem.W.CodeHd h p.1 p.2) ∧
    (∀ (s : Shared) (u : Value), BindsTo s fd ⟨[u], []⟩ [(x, u)]) ∧
    (∀ (H : Hp) (a : Addr) (ns : List Int), ns.length ≤ n → (∀ z ∈ ns, Builtin.Int.intBits z ≤ 1048576) → (∀ p ∈ cs, H p.2 = some (.tbl #[])) → SqL K H a (ns.map V.int) →
      sp [.ref a] H (fun v _ => v = .bl true) fun _ _ _ => False) ∧
    ∀ base : Heap, K.In base → base.Ns mainGlobals mg → (∀ p ∈ cs, TabB base mg p.1 p.2) → FnG l.prog w K mg base CX k fa fd [x] sp
theorem walkG {l : PySem.W.OpenLaw} {n k : Nat} {q : Program} {loose : List Str} {XP : (Str → Option Value) → Heap → Prop} {YP : World → Heap → Prop} {d : DefRec} {K : Params → PySem.W.Frag} {CX : World → CXT} {x : Str}
    (hn : l.most = some n) (hn2 : n ≤ sizeLine) (hdf : d.params.defaults = []) (hr : Room k callerA)
    (hY : ∀ (w : World) (h : Heap), YP w h → (K w.params).In h)
    (F : ∀ (w : World) (mg : Str → Option Value) (fa : Addr) (h : Heap), YP w h → (K w.params).In h → h.Ns mainGlobals mg → mg d.name = some (.ref fa) →
      LawG l w (K w.params) (CX w) k n x mg fa h)
    (noX : ∀ (w : World) (H : Hp) (s : Shared) (e : Value) (s' : Shared), CX w [] H s (fun _ _ _ => False) e s' → False) :
    PySem.W.WalkO q loose XP YP l.row.toRowW d [] (fun f vs => PySem.call f vs) :=
  Att.attach_callB hn hdf fun w s₀ s₁ mg mb fa o pm cd doc a vs ns G Y ho hd hcd hmg hobj hints hlen hbits hg => by
    obtain ⟨fd, cs, sp, hT, nT, C, hb, hsp, hF⟩ := F w mg fa _ Y (hY w _ Y) G.T.g hmg
    exact law_runG (hY w _ Y) G.T.g G.T.b G.T.builtins G.T.nolimit hg hT nT C G.T.bmain hobj hints (Nat.le_trans hlen hn2) hr hF hb (fun H hH hS => hsp H a ns hlen hbits hH hS) fun H e s' => noX w H s₁ e s'
theorem walkGE {l : PySem.W.OpenLaw} {n k : Nat} {q : Program} {loose : List Str} {XP : (Str → Option Value) → Heap → Prop} {YP : World → Heap → Prop} {d : DefRec} {CX : World → CXT} {x : Str}
    (hn : l.most = some n) (hn2 : n ≤ sizeLine) (hdf : d.params.defaults = []) (hr : Room k callerA)
    (F : ∀ (w : World) (mg : Str → Option Value) (fa : Addr) (h : Heap), YP w h → h.Ns mainGlobals mg → mg d.name = some (.ref fa) →
      ∃ K : PySem.W.Frag, K.In h ∧ LawG l w K (CX w) k n x mg fa h)
    (noX : ∀ (w : World) (H : Hp) (s : Shared) (e : Value) (s' : Shared), CX w [] H s (fun _ _ _ => False) e s' → False) :
    PySem.W.WalkO q loose XP YP l.row.toRowW d [] (fun f vs => PySem.call f vs) :=
  Att.attach_callB hn hdf fun w s₀ s₁ mg mb fa o pm cd doc a vs ns G Y ho hd hcd hmg hobj hints hlen hbits hg => by
    obtain ⟨K, KX, fd, cs, sp, hT, nT, C, hb, hsp, hF⟩ := F w mg fa _ Y G.T.g hmg
    exact law_runG KX G.T.g G.T.b G.T.builtins G.T.nolimit hg hT nT C G.T.bmain hobj hints (Nat.le_trans hlen hn2) hr hF hb (fun H hH hS => hsp H a ns hlen hbits hH hS) fun H e s' => noX w H s₁ e s'
end VG

set_option maxRecDepth 100000
/-! Calls by keywords alone; x in a tuple of data; data in a heap that has grown. -/
namespace VG
open PySem PySem.Spec PyProof.Rows L2
section
variable {X : Cx} {CX : CXT} {k : Nat} {f : Addr} {fd : FuncData} {ps ks : List Str} {sp : Sp} {E : XK} {x : Str} {p pos : Pos} {kws : List Keyword} {tk : TA} {g : List Value → List Value → List Value} {gV : List V → List V → List V}
/-- f(k = v, ..) -/
theorem pe_callN0 (F : FnOk X.prog X.w X.K X.mg X.base CX k f fd ps sp) (hr : Room k X.A) (hg : Gl X x) (hm : X.mg x = some (.ref f)) (hk : PySem.W.keepIn X.K (.ref f) = true) (hb : KBn X.K fd ps 0 ks g gV)
    (hx : Passes CX X E) (hkw : PK X kws tk) (n1 : (backToKw pos (keywordEach kws X.env)).all (·.1.isSome) = true := by rfl) (n2 : (backToKw pos (keywordEach kws X.env)).filterMap (·.1) = ks := by rfl)
    (n3 : (x == ("__debug__" : Str)) = false := by decide) (n4 : ((backTo pos (starEach [] X.env)).any (·.1) || (backToKw pos (keywordEach kws X.env)).any (·.1.isNone)) = false := by rfl) :
    PE X (.Call (.Name x p) [] kws pos) (tCallN 0 ks.length sp gV E tNil tk) :=
  ⟨fun pins s σ H Q I h => wpAny_Call_Name_kw (ld_glob I hg hm (PySem.W.callWith_KW0 (h₀ := X.base) I.ok.mod.kin hk n1 (thn (hkw.run pos pins s σ H _ I h) fun ws s2 ⟨zs, H2, I2, rz, l1, l2, q2⟩ =>
    ⟨I2.kIn, by rw [n2]; exact run_fnN (us := []) (vs := []) F hr hb hx I2 .nil rz l1 l2 q2⟩) n4) n3)⟩
end
/-! ### how keywords bind -/
section
variable {K : PySem.W.Frag} {x qual : Str} {params : Arguments} {body : List Stmt} {scope : Scope} {dvs : List V} {kws : List (Str × V)} {f : Addr} {fd : FuncData} {ps : List Str}
/-- some defaults, no keyword-only ones -/
theorem kbindsD (F : FunD K x qual params body scope dvs kws f fd) (n : Nat) (ks : List Str) (g : {α : Type} → List α → List α → List α → List α) (hd : dvs ≠ [])
    (hrel : ∀ {vs ds zs : List V} {us its ws : List Value}, Vals vs us → Vals ds its → Vals zs ws → Vals (g vs ds zs) (g us its ws))
    (h : ∀ (T : Addr) (kV doc pm : Value) (an : Option Addr) (cdv ct : Value) (us its ws : List Value), us.length = n → its.length = dvs.length → ws.length = ks.length →
      ∃ k, bindArgs (PySem.W.fnOf x qual params body scope (.ref T) kV doc pm an cdv ct) ⟨us, ks.zip ws⟩ = seqItems? (.ref T) >>= k ∧ k (some its.toArray) = pure (ps.zip (g us its ws))) :
    ∃ its : List Value, KBn K fd ps n ks (fun us ws => g us its ws) (fun vs zs => g vs dvs zs) := by
  obtain ⟨oc, od, dV, kV, doc, pm, an, cdv, ct, osl, rfl, lk, hcd, hD, hK⟩ := F.ex
  rcases hD with ⟨e, _⟩ | ⟨_, T, o, its, m, rfl, lT, oT, rT⟩
  · exact absurd e hd
  · refine ⟨its, fun s us ws X l1 l2 => BindsTo.of_looks fun M => ?_, fun r1 r2 => hrel r1 rT r2⟩
    obtain ⟨k, e1, e2⟩ := h T kV doc pm an cdv ct us its ws l1 rT.length.symm l2
    rw [e1]
    exact looks_items X lT oT (.of_pure e2)
/-- no defaults at all -/
theorem kbindsN (F : FunD K x qual params body scope [] kws f fd) (n : Nat) (ks : List Str) (g : {α : Type} → List α → List α → List α)
    (hrel : ∀ {vs zs : List V} {us ws : List Value}, Vals vs us → Vals zs ws → Vals (g vs zs) (g us ws))
    (h : ∀ (kV doc pm : Value) (an : Option Addr) (cdv ct : Value) (us ws : List Value), us.length = n → ws.length = ks.length →
      bindArgs (PySem.W.fnOf x qual params body scope .none kV doc pm an cdv ct) ⟨us, ks.zip ws⟩ = pure (ps.zip (g us ws))) : KBn K fd ps n ks (fun us ws => g us ws) (fun vs zs => g vs zs) := by
  obtain ⟨oc, od, dV, kV, doc, pm, an, cdv, ct, osl, rfl, lk, hcd, hD, hK⟩ := F.ex
  rcases hD with ⟨_, rfl⟩ | ⟨e, _⟩
  · exact ⟨fun s us ws _ l1 l2 => .of_eq (h kV doc pm an cdv ct us ws l1 l2), fun r1 r2 => hrel r1 r2⟩
  · exact absurd rfl e
theorem fun_of {st : Stmt} {f : Addr} {fd : FuncData} {kws : List (Str × V)} (F : FunD K x qual (defArgs st) (defBody st) (defScope st) [] kws f fd) : Fun K x qual st f fd := by
  obtain ⟨oc, od, dV, kV, doc, pm, an, cdv, ct, osl, e, lk, hcd, hD, hK⟩ := F.ex
  rcases hD with ⟨_, rfl⟩ | ⟨e, _⟩
  · exact ⟨⟨oc, od, kV, doc, pm, an, cdv, ct, osl, e, lk, hcd⟩, F.kp⟩
  · exact absurd rfl e
end
section
variable {X : Cx}
def rInT (K : PySem.W.Frag) (neg : Bool) : R2 := fun x y H Q => ∃ d ds, Dp K H x d ∧ Dp K H y (.tuple ds) ∧ SeqAt.shaped d = true ∧ SeqAt.shaped (.tuple ds) = true ∧
  Q (.bl (if neg then !ds.any fun z => PyData.eqv z d else ds.any fun z => PyData.eqv z d)) H
theorem room_inT {A : Around} {d : PyData} {xs : List PyData} (h : SeqAt.shaped d = true) (hu : A.units + 65 < cLine) : A.units + 1 + min (PyData.depthAll xs) d.depth < cLine := by
  have z := SeqAt.depth_of_shaped h
  have := Nat.min_le_right (PyData.depthAll xs) d.depth
  omega
theorem op_inT (hu : X.A.units + 65 < cLine) : OpR X (compareOp .In) (rInT X.K false) := by
  rintro pins s σ H x y v u Q I rx ry ⟨d, ds, hd, he, sd, se, q⟩
  obtain ⟨as, r1⟩ := Dp.reads I d x v hd rx
  obtain ⟨bs, r2⟩ := Dp.reads I (.tuple ds) y u he ry
  exact SeqAt.in_tuple_reads r2 r1 (SeqAt.canLay_of_shaped se) (SeqAt.canLay_of_shaped sd) (room_inT sd hu) ⟨.bl _, H, I, rfl, q⟩
theorem op_notInT (hu : X.A.units + 65 < cLine) : OpR X (compareOp .NotIn) (rInT X.K true) := by
  rintro pins s σ H x y v u Q I rx ry ⟨d, ds, hd, he, sd, se, q⟩
  obtain ⟨as, r1⟩ := Dp.reads I d x v hd rx
  obtain ⟨bs, r2⟩ := Dp.reads I (.tuple ds) y u he ry
  exact SeqAt.notIn_tuple_reads r2 r1 (SeqAt.canLay_of_shaped se) (SeqAt.canLay_of_shaped sd) (room_inT sd hu) ⟨.bl _, H, I, rfl, q⟩
end
theorem Same.tup {K : PySem.W.Frag} {H H' : Hp} {a : Addr} {xs : List V} (e : Same H H') (h : SqT K H a xs) : SqT K H' a xs := by
  rcases h with (h | ⟨o, h⟩) | h
  · exact .inl (.inl (e _ _ h))
  · exact .inl (.inr ⟨o, e _ _ h⟩)
  · exact .inr h
mutual
theorem Dp.same {K : PySem.W.Frag} {H H' : Hp} (e : Same H H') : ∀ (d : PyData) (v : V), Dp K H v d → Dp K H' v d
  | .none, _, h => by cases h; exact .non
  | .bool b, _, h => by cases h; exact .bl b
  | .int i, _, h => by cases h; exact .int i
  | .str x, _, h => by cases h; exact .str x
  | .list ds, _, h => by
    cases h with
    | lst a b => exact .lst (e.seq a) (DpAll.same e ds _ b)
  | .tuple ds, _, h => by
    cases h with
    | tup a b => exact .tup (Same.tup e a) (DpAll.same e ds _ b)
  | .dict _, _, h => by cases h
theorem DpAll.same {K : PySem.W.Frag} {H H' : Hp} (e : Same H H') : ∀ (ds : List PyData) (vs : List V), DpAll K H vs ds → DpAll K H' vs ds
  | [], _, h => by cases h; exact .nil
  | d :: ds, _, h => by
    cases h with
    | cons a b => exact .cons (Dp.same e d _ a) (DpAll.same e ds _ b)
end
end VG

set_option maxRecDepth 100000
/-! Own exceptions whose __init__ begins with super().__init__('..'). -/
namespace VG
open PySem PySem.Spec PyProof.Rows L2
open PySem.W (ksFn ksEnv)

/-! ### the wrapper that super().__init__ is, called -/
section
variable {prog : Program} {w : World} {A : Around} {E : Value → Shared → Prop} {h : Heap} {g : Array GenState} {d : Drawn} {t : Nat} {os : OsState} {nm q : Str} {C N : Addr} {bs bm : List Value} {hdct : Bool} {sn : List Str} {sub : List Value} {ab : Bool} {col : Option Bool} {dd : Option Addr}
  {k0 k1 k2 k3 k5 : Option Value} {B i newId : String} {bmB : List Value}
theorem call_mw (FB : ExcBaseFacts B newId i bmB) {u e t0 : Addr} {rest : List Value} {Q : Value → Shared → Prop} (hC : h.get? C = some (excClassObj nm q C N bs bm hdct sn sub ab col dd k0 k1 k2 k3 k5 newId)) (he : h.get? e = some (PySem.HandSPX.excO C t0))
    (hu : h.get? u = some (PySem.W.kxs_mw i e)) (hz : rest.length ≤ sizeLine)
    (hq : ∀ h' t1, (∀ b o, b ≠ e → h.get? b = some o → h'.get? b = some o) → h'.get? e = some (PySem.HandSPX.excO C t1) → Q .none ⟨h', g, d, t, os⟩) : wpAny (model prog w) A (call (.ref u) rest) Q E ⟨h, g, d, t, os⟩ := by
  refine wpAny_call (codeAny_of_tree ?_)
  show wpAny _ A.in1 (callAny (.ref u) ⟨rest, []⟩) _ _ _
  simp only [callAny]
  refine wpAny_bind (wpAny_load hu ?_)
  simp only [PySem.W.kxs_mw, show (Value.type "method-wrapper" == Value.type "method" || Value.type "method-wrapper" == Value.type "builtin_function_or_method" || Value.type "method-wrapper" == Value.type "method-wrapper") = true by decide, if_true]
  refine PySem.W.KFB.if_so (by decide) (wpAny_bind (PySem.W.check_bound_init FB.toExcCallFacts hC he rfl (wpAny_bind (wpAny_pure (wpAny_pure ⟨PySem.plainId_quiet FB.init.plain _, codeAny_builtin FB.initEntry ?_⟩)))))
  exact PySem.W.exc_init_tree (cls := .ref C) (t0 := t0) (dv := none) (c2 := .none) (c3 := .none) (b4 := .bool false) he hz fun h' k1 k2 _ => hq h' _ k1 k2
end

/-! ### the frame of such an __init__ -/
/-- no name of its own but the parameters; what it captures is its class alone -/
structure IniScope (ps : List Str) (sc : Scope) : Prop where
  kind : sc.kind = .function
  co : sc.isCoroutine = false
  gen : sc.isGenerator = false
  nd : ps.Nodup
  par : ∀ x ∈ ps, sc.names.lookup x = some .local
  noc : ∀ y ∈ sc.names, y.2 ≠ .cell
  fre : ∀ y ∈ sc.names, y.2 = .free → y.1 = "__class__"
  sup : sc.names.lookup ("super" : Str) = some .globalImplicit
  cls : sc.names.lookup ("__class__" : Str) = some .free
def iniCx (P : Program) (w : World) (K : PySem.W.Frag) (mg : Str → Option Value) (base : Heap) (ps : List Str) (qual : Str) (sc : Scope) (f cda cc : Addr) (A : Around) (outer : List Env) (s : Shared) (H : Hp) : Cx where
  prog := P
  w := w
  K := K
  mg := mg
  base := base
  A := A.deeper (ksEnv qual sc s.heap.objs.size f (.ref cda) cc)
  N := ps
  s_0 := s
  H_0 := H
  env := ksEnv qual sc s.heap.objs.size f (.ref cda) cc
  outer := outer
  stack := ksEnv qual sc s.heap.objs.size f (.ref cda) cc :: outer
  ex := []
  fn := fun _ => false
  calm := true
  pn := []
  xe := fun _ _ => False
theorem lookup_of_mem {x : Str} {u : Value} : ∀ {l : List (Str × Value)}, (l.map (·.1)).Nodup → (x, u) ∈ l → l.lookup x = some u
  | [], _, h => by cases h
  | (y, v) :: r, nd, h => by
    have nd' := List.nodup_cons.mp nd
    rcases List.mem_cons.mp h with e | h2
    · cases e
      simp [List.lookup]
    · have ne : (x == y) = false := by
        refine beq_eq_false_iff_ne.mpr fun z => nd'.1 ?_
        rw [← z]
        exact List.mem_map.mpr ⟨_, h2, rfl⟩
      rw [List.lookup_cons, ne]
      exact lookup_of_mem nd'.2 h2
theorem zip_keys : ∀ {ps : List Str} {us : List Value}, us.length = ps.length → (ps.zip us).map (·.1) = ps
  | [], [], _ => rfl
  | p :: ps, u :: us, h => by
    show p :: (ps.zip us).map (·.1) = p :: ps
    rw [zip_keys (by simpa using h)]
  | [], _ :: _, h => by cases h
  | _ :: _, [], h => by cases h
theorem zip_mem : ∀ {ps : List Str} {us : List Value} {i : Nat} {x : Str} {u : Value}, ps[i]? = some x → us[i]? = some u → (x, u) ∈ ps.zip us
  | [], _, _, _, _, h, _ => by simp at h
  | _ :: _, [], _, _, _, _, h => by simp at h
  | p :: ps, v :: us, 0, x, u, h1, h2 => by
    simp at h1 h2
    subst h1 h2
    exact List.mem_cons_self
  | p :: ps, v :: us, i + 1, x, u, h1, h2 => List.mem_cons_of_mem _ (zip_mem (i := i) (by simpa using h1) (by simpa using h2))
theorem cell_one {x : Str} {cc c : Addr} (h : ([("__class__", cc)] : List (Str × Addr)).lookup x = some c) : x = "__class__" ∧ c = cc := by
  rw [List.lookup_cons] at h
  cases e : (x == ("__class__" : Str)) with
  | true =>
    rw [e] at h
    exact ⟨beq_iff_eq.mp e, (Option.some.inj h).symm⟩
  | false =>
    rw [e] at h
    cases h
theorem ini_start {P : Program} {w : World} {K : PySem.W.Frag} {mg : Str → Option Value} {base : Heap} {ps : List Str} {qual : Str} {sc : Scope} {f cda cc : Addr} {A : Around} {outer : List Env} {s : Shared} {H : Hp} {us : List Value} {vs : List V} {h₁ : Heap} {tk : Nat} {oc : Obj} {v0 : Option Value}
    (S : IniScope ps sc) (hd : A.handled = none) (e0 : Env0 P w K mg base A outer s H) (hl : us.length = ps.length) (r : Vals vs us) (lc : K.lookup cc = some oc) (dc : oc.data = .cell v0)
    (hns : h₁.Ns s.heap.objs.size fun y => (ps.zip us).reverse.lookup y) (hk : ∀ b o, s.heap.get? b = some o → h₁.get? b = some o) :
    Inv (iniCx P w K mg base ps qual sc f cda cc A outer s H) [] (vs.map some) H { s with heap := h₁, toks := tk } := by
  have noA : ∀ b : Addr, b ∉ (iniCx P w K mg base ps qual sc f cda cc A outer s H).ex := fun b z => absurd (show b ∈ ([] : List Addr) from z) (by simp)
  have cb := e0.bs cc oc (e0.mod.kin cc oc lc)
  refine ⟨⟨e0.mod, S.kind, rfl, rfl, Nat.le_refl _, fun x y c h1 h2 => ?_, fun x hx => ?_, fun x c z _ => ?_, fun _ => hd, Around.frames_deeper e0.frames, .inr ⟨rfl, rfl⟩, fun b z => absurd z (noA b), e0.bs, e0.bsz, fun b _ _ => noA b, fun b z => absurd z (noA b), e0.funs, e0.frf⟩,
    rfl, e0.bare, Un.kept hk, ⟨_, hns, fun i x v h1 h2 h3 => ?_⟩, fun x c h => ?_, e0.hok.fresh (Nat.le_refl _), fun x c h => ?_, fun p hp => absurd (show p ∈ ([] : List (Addr × Obj)) from hp) (by simp), e0.hok.kept hk, ?_⟩
  · exact (cell_one h1).1.trans (cell_one h2).1.symm
  · have hx : sc.names.lookup x = some .cell ∨ sc.names.lookup x = some .free := hx
    rcases hx with z | z
    · exact absurd rfl (S.noc _ (PySem.mem_of_lookup z))
    · have e := S.fre _ (PySem.mem_of_lookup z) rfl
      have e : x = "__class__" := e
      subst e
      exact ⟨cc, show ([("__class__", cc)] : List (Str × Addr)).lookup ("__class__" : Str) = some cc by simp [List.lookup]⟩
  · have z : false = true := z
    cases z
  · have hi : i < vs.length := by
      by_cases z : i < vs.length
      · exact z
      · rw [List.getElem?_eq_none (by rw [List.length_map]; omega)] at h2
        cases h2
    have ha : vs[i]? = some v := by
      rw [List.getElem?_map] at h2
      cases e : vs[i]? with
      | none => rw [e] at h2; cases h2
      | some a => rw [e] at h2; cases h2; rfl
    obtain ⟨u, hu, rv⟩ := r.get ha
    have kl := S.par x (List.mem_of_getElem? h1)
    refine ⟨u, rv, .inl ⟨kl, ?_⟩⟩
    refine lookup_of_mem ?_ (List.mem_reverse.mpr (zip_mem h1 hu))
    rw [List.map_reverse, zip_keys hl]
    exact List.pairwise_reverse.mpr (S.nd.imp Ne.symm)
  · obtain ⟨_, rfl⟩ := cell_one h
    exact ⟨v0, oc, hk _ _ cb.1, dc⟩
  · obtain ⟨_, rfl⟩ := cell_one h
    exact cb.2
  · show (vs.map some).length = ps.length
    rw [List.length_map, r.length, hl]

/-! ### such an __init__ keeps a promise -/
/-- what the written part tells of the class at C, of its __init__ at f (its cell at cc, its code at cda) -/
structure IniTxt (P : Program) (K : PySem.W.Frag) (mg : Str → Option Value) (B i newId : String) (bmB : List Value) (C f cc cda : Addr) (qual : Str) (params : Arguments) (body : List Stmt) (sc : Scope) (fd : FuncData) : Prop where
  kf : PySem.W.KxsFacts B i
  fb : ExcBaseFacts B newId i bmB
  fn : ∃ oc od dV kV doc pm an ct osl, fd = ksFn "__init__" qual params body sc dV kV doc pm an (.ref cda) ct cc ∧ K.lookup f = some ⟨oc, od, .func fd, osl⟩
  code : PySem.W.codeIn K (.ref cda) qual = true
  file : ∃ ccl cdd vs ccs tf, K.lookup cda = some ⟨ccl, cdd, .fields vs, ccs⟩ ∧ vs[2]? = some (.str P.main.file tf)
  cell : ∃ cl cld csl, K.lookup cc = some ⟨cl, cld, .cell (some (.ref C)), csl⟩
  cls : ∃ nm q N bs bm hdct sn sub ab col dd k0 k1 k2 k3 k5, K.lookup C = some (excClassObj nm q C N bs bm hdct sn sub ab col dd k0 k1 k2 k3 k5 newId)
  up : PySem.W.ks_superIn K C C "__init__" = some (some (.builtin i))
  isB : PySem.W.subIn K (.ref C) (.type B) = some true
  self : PySem.W.mroIn K C (.ref C) = some true
  opq : PySem.W.nsIn K cStatics "thirdparty.any" = some none
  sup : mg "super" = none
  top : (P.main.scope.names.lookup ("super" : Str)).isSome = false
abbrev superInit (p0 p1 p2 p3 p4 p5 : Pos) (j : Nat) (z : Str) : Stmt := .Expr (.Call (.Attribute (.Call (.Name "super" p0) [] [] p1) "__init__" p2) [.Constant (.str z) j p3] [] p4) p5
def spIni (C : Addr) (t : TS) : Sp := fun vs H Q _ => ∃ (a : Addr) (ws : List V), vs = .ref a :: ws ∧ H a = some (exo a C none) ∧ t { nx := fun _ H' => Q .non H', rt := Q } (vs.map some) H
section
variable {P : Program} {w : World} {K : PySem.W.Frag} {mg : Str → Option Value} {base : Heap} {B i newId : String} {bmB : List Value} {C f cc cda : Addr} {qual : Str} {params : Arguments} {rest : List Stmt} {sc : Scope} {fd : FuncData} {ps : List Str} {p0 p1 p2 p3 p4 p5 : Pos} {j k : Nat} {z : Str} {self : Arg} {sp : Sp}
/-- how super().__init__('..') is run, where it stands on one line -/
def SupEv (p0 p1 p2 p3 p4 : Pos) (j : Nat) (z : Str) : Prop := ∀ env : Env, ∃ pl : Sem Bool, eval (.Call (.Attribute (.Call (.Name "super" p0) [] [] p1) "__init__" p2) [.Constant (.str z) j p3] [] p4) env = (do
  let ov ← attributeBase (.Call (.Name "super" p0) [] [] p1) "__init__" env (eval (.Call (.Name "super" p0) [] [] p1) env)
  standAt p2.atName
  let (f, first) ← holding [ov] (getMethod ov "__init__" pl)
  callWith p4 f first (backTo p4 (starEach [.Constant (.str z) j p3] env)) [])
theorem ini_ok (hev : SupEv p0 p1 p2 p3 p4 j z) (T : IniTxt P K mg B i newId bmB C f cc cda qual params (superInit p0 p1 p2 p3 p4 p5 j z :: rest) sc fd) (S : IniScope ps sc) (hself : (params.posonlyargs ++ params.args).head? = some self) (hp0 : ps[0]? = some self.arg)
    (many : ∀ vs H Q E, sp vs H Q E → vs.length = ps.length)
    (body : ∀ (A : Around) (outer : List Env) (s : Shared) (H : Hp) (vs : List V) (Q : VK) (E : XK), Room k (A.deeper (ksEnv qual sc s.heap.objs.size f (.ref cda) cc)) → sp vs H Q E →
      ∃ a ws, vs = .ref a :: ws ∧ H a = some (exo a C none) ∧ ∃ t, PSs (iniCx P w K mg base ps qual sc f cda cc A outer s H) rest t ∧ t { nx := fun _ H' => Q .non H', rt := Q } (vs.map some) H) :
    FnOk P w K mg base CX0 (k + 1) f fd ps sp := by
  obtain ⟨oc, od, dV, kV, doc, pm, an, ct, osl, rfl, lk⟩ := T.fn
  obtain ⟨ccl, cdd, cvs, ccs, tf, lcode, hfile⟩ := T.file
  obtain ⟨cl, cld, csl, lcell⟩ := T.cell
  obtain ⟨nm, q, N, bs, bm, hdct, sn, sub, ab, col, dd, k0, k1, k2, k3, k5, lC⟩ := T.cls
  refine ⟨many, fun A outer s H args us vs Q E hr e0 hb r hsp => ?_⟩
  have KX : K.In s.heap := e0.mod.kin.keeps fun b o e => (e0.bs b o e).1
  have lim : s.heap.NoLimit := e0.mod.nolimit.keeps fun b o e => (e0.bs b o e).1
  have hl : us.length = ps.length := r.length.symm.trans (many _ _ _ _ hsp)
  refine PySem.ks_codeAny_call_defAt (body := superInit p0 p1 p2 p3 p4 p5 j z :: rest) (binds := ps.zip us) hr.depth (KX _ _ lk) rfl lim (PySem.W.codeRec_of KX T.code) rfl hb S.noc (fun y hy => S.par y.1 (List.of_mem_zip hy).1) (fun h₁ hns hk => ?_) S.co S.gen S.kind
  obtain ⟨a, ws, rfl, hea, t, ht, hq⟩ := body A outer s H vs Q E (hr.deeper _) hsp
  have I : Inv (iniCx P w K mg base ps qual sc f cda cc A outer s H) [] ((V.ref a :: ws).map some) H { s with heap := h₁, toks := s.toks + (ps.zip us).length } := ini_start S hr.hd e0 hl r lcell rfl hns hk
  have hu0 : us[0]? = some (.ref a) := by
    obtain ⟨u, h1, h2⟩ := r.get (i := 0) (x := .ref a) rfl
    rw [h1]
    exact congrArg some h2
  have hself' : (ps.zip us).reverse.lookup self.arg = some (.ref a) := by
    refine lookup_of_mem ?_ (List.mem_reverse.mpr (zip_mem hp0 hu0))
    rw [List.map_reverse, zip_keys hl]
    exact List.pairwise_reverse.mpr (S.nd.imp Ne.symm)
  have fin : ∀ {σ' : L2.St} {H' : Hp} {v : V} {u : Value} {s' : Shared}, Inv (iniCx P w K mg base ps qual sc f cda cc A outer s H) [] σ' H' s' → RelV v u → Q v H' → CE outer P w H s Q u s' := fun J rv q => ⟨_, _, J.os, J.bare, J.base, J.hok, rv, q⟩
  have X1 := I.kIn
  obtain ⟨mb, hmb, hbb⟩ := I.mod.blt
  obtain ⟨t0, hoe⟩ := exo_at I.hok hea
  have hC1 := X1 _ _ lC
  have hcd : PySem.W.clsIn K C = some { name := nm, bases := bs, mro := .ref C :: bm, ns := N, qualname := q, hasDict := hdct, slotNames := sn, subclasses := sub, abstract := ab, collection := col, hasDel := false } := by
    unfold PySem.W.clsIn
    rw [lC] <;> rfl
  have hint : interactive (ksEnv qual sc s.heap.objs.size f (.ref cda) cc) = false := by
    unfold interactive
    simp [S.kind]
  obtain ⟨pl, he⟩ := hev (ksEnv qual sc s.heap.objs.size f (.ref cda) cc)
  refine PySem.ks_wpAt_execs_cons (PySem.ks_wpAt_Expr_any (PySem.ks_wpAt_MethodCall (pl := pl) ?_ he) hint)
  refine PySem.ks_wpAt_super_base (env := ksEnv qual sc s.heap.objs.size f (.ref cda) cc) S.sup S.cls (by decide) rfl (X1 _ _ lk) rfl hself rfl (X1 _ _ lcode) rfl hfile (beq_self_eq_true _) T.top ?_
  refine PySem.W.ks_loadName_global S.kind S.sup (Calls.loadGlobal_builtin (env := ksEnv qual sc s.heap.objs.size f (.ref cda) cc) (I.mod.glob.keeps I.bk) T.sup (hmb.keeps I.bk) ((hbb "super" (by decide +kernel)).trans PyProof.Rows.Boot.«super») ⟨rfl, ?_⟩)
  refine wpAny_loadName_free S.kind S.cls rfl ⟨_, X1 _ _ lcell, rfl⟩ ?_
  refine wpAny_loadName_local S.kind (S.par _ (List.mem_of_getElem? hp0)) hns hself' ?_
  refine PySem.ks_wpAny_isType_cls hC1 rfl ⟨rfl, ?_⟩
  refine PySem.ks_wpAny_call_super hC1 rfl hoe rfl (fun c e => by cases e) (PySem.W.looks_mroIn X1 T.self) (fun h2 e2 k2 => ?_)
  have I2 := I.kept (t' := s.toks + (ps.zip us).length) k2
  have X2 := I2.kIn
  have hoe2 := k2 _ _ hoe
  have J2 : PySem.W.InstAt h2 a (PySem.HandSPX.excO C t0) C none := ⟨hoe2, rfl, rfl, trivial⟩
  have hup : PySem.W.alongIn K "__init__" (((Value.ref C :: bm).dropWhile (· != .ref C)).drop 1) = some (some (.builtin i)) := by
    have z := T.up
    unfold PySem.W.ks_superIn at z
    rw [hcd] at z
    exact z
  have haC : a ≠ C := fun z => by
    have n := (I.bs C _ (I.mod.kin _ _ lC)).2
    rw [← z, hea] at n
    cases n
  refine PySem.W.kxs_getMethod T.kf e2 (PySem.W.looks_opaque X2 T.opq) (l₀ := .ref C :: bm) (fun A Q E s k q => wpAny_bind ((PySem.W.looks_clsIn X2 hcd) A _ E s k (wpAny_pure q))) rfl X2 hup (J2.type.andThen (PySem.W.looks_subIn X2 T.isB)) haC (by decide) ?_
  have I3 : Inv (iniCx P w K mg base ps qual sc f cda cc A outer s H) [(h2.objs.size, PySem.W.kxs_mw i a)] ((V.ref a :: ws).map some) H ⟨h2.push (PySem.W.kxs_mw i a), s.gens, s.drawn, s.toks + (ps.zip us).length + 1, s.os⟩ :=
    ClX.pin_new (s := ⟨h2, s.gens, s.drawn, s.toks + (ps.zip us).length, s.os⟩) (t' := s.toks + (ps.zip us).length + 1) I2 (fun b o e => Heap.get?_push_of_some _ e) (Nat.le_refl _) (Heap.get?_push_size _ rfl) (fun v z => nomatch z)
  refine PySem.W.kxs_callWith (i := i) (x := a) rfl (PySem.Calls.evalArgs_plain ?_)
  have PA1 : PA (iniCx P w K mg base ps qual sc f cda cc A outer s H) [.Constant (.str z) j p3] (tCons (tC (.str z)) tNil) := pa_cons pe_str pa_nil
  refine thnF (PA1.run p4 _ _ ((V.ref a :: ws).map some) H (fun vs H' => vs.length ≤ 1 ∧ H' = H) I3 ⟨Nat.le_refl _, rfl⟩) fun us4 s4 ⟨vs4, H4, I4, r4, l4, e4⟩ => ?_
  subst e4
  refine ⟨ClX.pin_at I4, ?_⟩
  have X4 := I4.kIn
  obtain ⟨t4, hoe4⟩ := exo_at I4.hok hea
  obtain ⟨g4, gs4, d4, tk4, os4⟩ := s4
  refine call_mw T.fb (X4 _ _ lC) hoe4 (ClX.pin_at I4) (by show us4.length ≤ sizeLine; rw [← r4.length, sizeLine_eq]; omega) fun h5 t5 k5 e5 => ?_
  have I5 := (ClX.unpin I4).write (t' := tk4) (x := a) (e := a) (o := exo a C none) (by rw [hea]; exact True.intro) (.inl rfl) k5 ⟨_, e5⟩ (exo_ok e5)
  have eu : upd H4 a (exo a C none) = H4 := by
    funext b
    by_cases hb : b = a
    · rw [hb, upd_same, hea]
    · rw [upd_ne hb]
  rw [eu] at I5
  refine wpAt_of_wpAny (thnF (ht.run [] _ _ _ _ I5 hq) fun fl s' hs => ?_)
  match fl, hs with
  | .ret u, hs =>
    obtain ⟨v, σ', H', J, rv, q⟩ := hs
    exact fin J rv q
  | .next, hs =>
    obtain ⟨σ', H', J, q⟩ := hs
    exact fin (v := V.non) (u := Value.none) J rfl q
  | .brk, hs =>
    obtain ⟨_, _, _, q⟩ := hs
    exact False.elim q
  | .cont, hs =>
    obtain ⟨_, _, _, q⟩ := hs
    exact False.elim q
end
end VG

set_option maxRecDepth 100000
/-! The name of an exception's class; errors that keep what they were given. -/
namespace VG
open PySem PySem.Spec PyProof.Rows L2

/-! ### o.__class__ of an own exception, C.__name__ of an own class -/
structure ClsTxt (K : PySem.W.Frag) (C : Addr) (nm : Str) : Prop where
  ga : PySem.W.findIn K (.ref C) "__getattribute__" = some (some (.builtin "BaseException.__getattribute__"))
  gg : PySem.W.findIn K (.ref C) "__getattr__" = some none
  exC : PySem.W.subIn K (.ref C) (.type "BaseException") = some true
  isC : (PySem.W.clsIn K C).isSome = true
  ca : PySem.W.findIn K (.ref C) "__class__" = some (some (.builtin "object.__class__"))
  cn : PySem.W.specialIn K (.builtin "object.__class__") "__get__" = some (some (.builtin "getset_descriptor.__get__"))
  ct : PySem.W.takesIn K (.builtin "object.__class__") = some true
  cm : PySem.W.mroIn K C (.type "object") = some true
  rd : PySem.W.readsIn K C (.type "type") = true
  na : PySem.W.findCls K (.ref C) (.type "type") "__name__" = some (.get (.builtin "getset_descriptor.__get__") (.builtin "type.__name__") (.ref C) (.type "type"))
  ty : PySem.W.typeIn K (.ref C) = some (.type "type")
  nm : ∃ oc od dt sl tk, K.lookup C = some ⟨oc, od, dt, sl⟩ ∧ sl[2]? = some (some (.str nm tk))
section
variable {prog : Program} {w : World} {A : Around} {E : Value → Shared → Prop} {s : Shared} {K : PySem.W.Frag} {C x : Addr} {nm : Str} {ox : Obj} {od : Option Obj}
theorem find_class (T : ClsTxt K C nm) : PySem.W.findObj K C od "__class__" = some (.bind (.builtin "getset_descriptor.__get__") (.builtin "object.__class__")) := by
  obtain ⟨cd, hc⟩ := Option.isSome_iff_exists.mp T.isC
  unfold PySem.W.findObj
  rw [hc, Option.bind_some, T.ca, Option.bind_some]
  simp [T.cn, T.ct]
theorem get_class {expr : Bool} {Q : Value → Shared → Prop} (T : ClsTxt K C nm) (X : K.In s.heap) (I : PySem.W.InstAt s.heap x ox C od) (h : Q (.ref C) { s with toks := s.toks + 1 }) : wpAny (model prog w) A (getAttr (.ref x) "__class__" expr) Q E s := by
  obtain ⟨hp, g, d, t, os⟩ := s
  have ty := I.type (M := model prog w)
  have own : (onTheHeap (Value.ref C) && Value.builtin "BaseException.__getattribute__" == Value.builtin "object.__getattribute__") = false := by
    rw [show (Value.builtin "BaseException.__getattribute__" == Value.builtin "object.__getattribute__") = false by decide +kernel, Bool.and_false]
  have plain : (expr && onTheHeap (Value.builtin "BaseException.__getattribute__")) = false := by cases expr <;> rfl
  unfold getAttr getAttrBy
  refine wpAny_bind (wpAny_mkText (wpAny_holding (wpAny_bind (ty.at (wpAny_bind ((PySem.W.looks_findIn X T.ga).at ?_))))))
  dsimp only
  rw [own, if_neg (by decide)]
  unfold getAttrByItsOwn hookBefore
  refine wpAny_bind ?_
  rw [if_pos (show onTheHeap (Value.ref C) = true from rfl)]
  refine (PySem.W.looks_findIn X T.gg).at (wpAny_bind (wpAny_attempt (wpAny_holding ?_)))
  unfold callGetattribute
  rw [plain, if_neg (by decide)]
  unfold boundAndCalled
  rw [PySem.F.excAttr_ValueError.ga.bind (.ref x)]
  refine wpAny_bind (wpAny_pure (wpAny_call (codeAny_call_builtin PySem.F.excAttr_ValueError.ga.plain PySem.F.entry_bexc_ga ?_)))
  refine @PySem.W.check_slot (model prog w) _ _ ⟨hp, g, d, t + 1, os⟩ "BaseException.__getattribute__" "BaseException" "__getattribute__" (.ref x) [.str "__class__" t] [] _ (by decide +kernel) (by decide +kernel)
    (ty.andThen (PySem.W.looks_subIn X T.exC)) (PySem.F.args_bexc_ga (.ref x) (.str "__class__" t)) ?_
  unfold Builtin.«object.__getattribute__»
  refine wpAny_bind (wpAny_of_eq (a := ((Value.ref x : Value), [Value.str "__class__" t])) (by first | rfl | (simp only [slotArgs]; rfl)) ?_)
  refine wpAny_bind (wpAny_pure (wpAny_bind (ty.at (wpAny_bind ((PySem.W.looks_find X I (find_class T)).at ?_)))))
  refine wpAny_bind (wpAny_holding (wpAny_call (PySem.W.class_get (s := ⟨hp, g, d, t + 1, os⟩) X I T.cm ?_)))
  refine wpAny_pure ?_
  exact PySem.W.handed_on (v := .ref C) rfl h
theorem get_name {expr : Bool} {Q : Value → Shared → Prop} (T : ClsTxt K C nm) (X : K.In s.heap) (h : ∀ tk, Q (.str nm tk) { s with toks := s.toks + 1 }) : wpAny (model prog w) A (getAttr (.ref C) "__name__" expr) Q E s := by
  obtain ⟨oc, od, dt, sl, tk, lC, hsl⟩ := T.nm
  refine PySem.W.cls_bind X T.rd T.na ?_
  obtain ⟨hp, g, d, t, os⟩ := s
  have hC := X _ _ lC
  have ty : PySem.W.Looks (model prog w) hp (typeOf (.ref C)) (.type "type") := PySem.W.looks_typeIn X T.ty
  have L1 : PySem.W.Looks (model prog w) hp (isSubtype (.type "type") (.type "type")) true := PySem.W.Looks.of_pure (by rw [isSubtype_type]; kernel_rfl)
  refine wpAny_call (codeAny_call_builtin PySem.W.KF.slot_gs.plain PySem.W.KF.entry_gs (PySem.W.KF.slot_gs.check _ _ _ _ _ _ _ _ PySem.W.ktyn_type (PySem.W.KF.args_gs _ _ _) ?_))
  unfold Builtin.«getset_descriptor.__get__» Builtin.Getset_descriptor.descrGet
  rw [PySem.W.dga_obj]
  refine wpAny_bind (wpAny_pure ?_)
  unfold Builtin.Getset_descriptor.descrGetter Builtin.Getset_descriptor.descrCheckInstance Builtin.Getset_descriptor.descrNameAndClass isInstance
  simp only [PySem.W.ktyn_owner]
  repeat lk
  refine ⟨Code.quiet_builtin _ (by decide +kernel), codeAny_builtin PySem.W.ktyn_entry ?_⟩
  unfold Builtin.«type.__name__» Builtin.keptObject slotAt
  dsimp only
  refine wpAny_bind (wpAny_bind (wpAny_bind (wpAny_loadPart_at hC (wpAny_pure ?_))))
  rw [hsl]
  exact wpAny_pure (wpAny_pure (PySem.W.handed_on (v := .str nm tk) rfl (h tk)))
end
/-- o.__class__.__name__, o an exception that is being made -/
def tClsName (K : PySem.W.Frag) (to : TE) : TE := fun σ H Q => to σ H fun x H1 => ∃ (a C : Addr) (nm : Str), x = .ref a ∧ ClsTxt K C nm ∧ (H1 a = some (exo a C none) ∨ ∃ (dx : Addr) (fs : List (Str × V)), H1 a = some (exo a C (some dx)) ∧ H1 dx = some (exd dx fs)) ∧ Q (.str nm) H1
theorem pe_clsName {X : Cx} {o : Expr} {to : TE} {p1 p2 : Pos} (ho : PE X o to) (b1 : attributeBase o "__class__" X.env (eval o X.env) = eval o X.env := by rfl)
    (b2 : attributeBase (.Attribute o "__class__" p1) "__name__" X.env (eval (.Attribute o "__class__" p1) X.env) = eval (.Attribute o "__class__" p1) X.env := by rfl) :
    PE X (.Attribute (.Attribute o "__class__" p1) "__name__" p2) (tClsName X.K to) := by
  refine ⟨fun pins s σ H Q I h => ?_⟩
  refine attr_of b2 (attr_of b1 (thn (ho.run pins s σ H _ I h) fun u s1 ⟨x, H1, I1, rx, a, C, nm, ex, T, hea, q⟩ => ?_))
  subst ex
  obtain rfl : u = Value.ref a := rx
  have fin : ∀ {ox : Obj} {od : Option Obj}, PySem.W.InstAt s1.heap a ox C od → wpAny (model X.prog X.w) X.A (getAttr (.ref a) "__class__" true) (fun o s₁ => wpAny (model X.prog X.w) X.A (getAttr o "__name__" true) (EP X pins σ Q) X.xe s₁) X.xe s1 := fun J =>
    get_class T I1.kIn J (get_name T (I1.tok _).kIn fun tk => ⟨.str nm, H1, (I1.tok _).tok _, ⟨tk, rfl⟩, q⟩)
  rcases hea with e | ⟨dx, fs, e, ed⟩
  · obtain ⟨t1, ho1⟩ := exo_at I1.hok e
    exact fin (od := none) ⟨ho1, rfl, rfl, trivial⟩
  · obtain ⟨t1, ho1⟩ := exo_at I1.hok e
    obtain ⟨mA, hns, rel⟩ := exd_at I1.hok ed
    obtain ⟨oD, _, _, hoD, _, _⟩ := hns.count (within_of rel)
    exact fin (od := some oD) ⟨ho1, rfl, rfl, hoD⟩
end VG

set_option maxRecDepth 100000
/-! try: .. except (A, B, C) as n: .. -/
namespace VG
open PySem PySem.Spec PyProof.Rows L2

theorem flying_kept {B h h' : Heap} {l : List Env} {a : Addr} {Z : Obj → Prop} (k : ∀ b o, h.get? b = some o → h'.get? b = some o) (x : HandSPX.FlyingZ B l a Z h) : HandSPX.FlyingZ B l a Z h' := by
  obtain ⟨st, nb, ff, oe, vs, T, oT, ts, h1, h2, h3, h4, h5, h6, h7, h8, h9⟩ := x
  exact ⟨fun b o e => k b o (st b o e), nb, ff.of_keeps fun b o e _ => ⟨o, k b o e, rfl⟩, oe, vs, T, oT, ts, k _ _ h1, h2, h3, h4, h5, h6, k _ _ h7, h8, h9⟩
/-- what such a clause wishes of an exception of the body (one of another class is not looked at here) -/
def wAs3 (K : PySem.W.Frag) (cs : List Value) (i n : Nat) (ts : Addr → Value → Option Addr → TS) (D : Ends) : WX := fun cls d σ H => PySem.W.exmAny K cls cs = some true ∧
  ∀ a, H a = none → σ.length = n → ts a cls d { nx := fun σ' H' => D.nx (σ'.set i none) H', rt := D.rt, bk := fun σ' H' => D.bk (σ'.set i none) H', ct := fun σ' H' => D.ct (σ'.set i none) H' } (σ.set i (some (.ref a))) H
section
variable {X : Cx} {x1 x2 x3 n : Str} {c1 c2 c3 : Value} {i j : Nat} {body suite : List Stmt} {b₀ : Stmt} {q1 q2 q3 tpos pos pos' : Pos} {tb : WX → TS} {ts : Addr → Value → Option Addr → TS}
theorem name_at {pins : List (Addr × Obj)} {σ : L2.St} {H : Hp} {s : Shared} {x : Str} {c : Value} {p : Pos} {E : Value → Shared → Prop} {Q : Value → Shared → Prop} (I : Inv X pins σ H s) (hc : Names X x c) (q : Q c s) : wpAny (model X.prog X.w) X.A (eval (.Name x p) X.env) Q E s := by
  obtain ⟨hg, hd, hm | ⟨hm, hv, hn⟩⟩ := hc
  · exact ld_glob I hg hm q hd
  · exact ld_blt I hg hm hv q hn hd
theorem ps_try_as3 (hs : X.stack = X.env :: X.outer) (hf : X.env.frame = some X.env.locals) (hN : X.N.Nodup) (hi : X.N[i]? = some n) (hln : X.env.kindOf n = some .local) (n1 : Names X x1 c1) (n2 : Names X x2 c2) (n3 : Names X x3 c3)
    (hb : ∀ (W : WX) (pn : List (Addr × Obj)) (xe : Value → Shared → Prop), Takes (X.tr pn xe) W → PassesOwn (model X.prog X.w) X.A X.env xe → PSs (X.tr pn xe) body (tb W))
    (hsu : ∀ (a : Addr) (oe : Obj) (cls : Value) (d : Option Addr) (pn : List (Addr × Obj)), Zc cls d oe → (∃ vs, oe.data = .fields vs) → PSs (X.suite a ((a, oe) :: pn)) (b₀ :: suite) (ts a cls d)) :
    PS X (.Try body [.ExceptHandler (some (.Tuple [.Name x1 q1, .Name x2 q2, .Name x3 q3] j tpos)) (some n) (b₀ :: suite) pos'] [] [] pos) (fun D σ H => tb (wAs3 X.K [c1, c2, c3] i X.N.length ts D) D σ H) := by
  refine ⟨fun pins s σ H D I h => ?_⟩
  have ok := I.ok
  have hfr : X.A.frames = some (X.env :: X.outer) := by rw [ok.frames, hs]
  have loc : Loc X.env.scope n := .inl hln
  refine wpAny_Try_except (wpAny_mono ((hb (wAs3 X.K [c1, c2, c3] i X.N.length ts D) (X.pn ++ pins) (fun e s₁ => wpAny (model X.prog X.w) X.A (noteFrame e X.env) (fun _ s₂ => wpAny (model X.prog X.w) X.A (setFlight e none) (fun _ s₃ =>
    wpAny (model X.prog X.w) X.A (handleBy e X.env [.ExceptHandler (some (.Tuple [.Name x1 q1, .Name x2 q2, .Name x3 q3] j tpos)) (some n) (b₀ :: suite) pos']) (SP X pins D) X.xe s₃) X.xe s₂) X.xe s₁) (fun u s' xx => ?_) PassesOwn.looking).run [] s σ H D (I.toTry _) h)
    (fun f s1 hsp => ?_) (fun e s1 he => he))
  · obtain ⟨a, B, sI, pins', σ', H', cls, d, rfl, J', nb, up, sky, na, os, ag, yes, go⟩ := xx
    have J : Inv X pins σ' H' sI := J'.ofTry ok
    refine Sky.land Zc.steady hfr hf (show Sky B (X.env :: X.outer) a (Zc cls d) X.env.locals s'.heap by rw [← hs]; exact sky) fun h3 fl3 up3 => ?_
    have J3 : Inv X pins σ' H' { s' with heap := h3 } := J.landed nb fl3.1 (up.trans up3) os ag
    obtain ⟨oe3, vs3, he3, hz3, hd3⟩ := fl3.there
    have nfr : a ∉ frs (X.env :: X.outer) := fun hm => by
      obtain ⟨_, o', e', z⟩ := fl3.2.2.1.mem hm
      rw [he3] at e'
      cases e'
      exact z _ hd3
    have nL : a ≠ X.env.locals := fun z => nfr (List.mem_filterMap.mpr ⟨X.env, List.mem_cons_self, by rw [hf, z]⟩)
    have nF : a ∉ X.fs := fun hm => by
      obtain ⟨e, he, q⟩ := List.mem_filterMap.mp hm
      exact nfr (List.mem_filterMap.mpr ⟨e, List.mem_cons_of_mem _ he, q⟩)
    have S3 := J3.suite he3 hd3 na nL nF
    have up13 := up.trans up3
    refine wpAny_handleBy_cons (codeAny_handlers_test ?_) (by intro q; cases q)
    refine wpAny_Tuple (wpAny_items_cons (name_at (X := X.suite a ((a, oe3) :: (X.pn ++ pins))) S3 n1 (wpAny_items_cons (name_at (X := X.suite a ((a, oe3) :: (X.pn ++ pins))) S3 n2 (wpAny_items_cons (name_at (X := X.suite a ((a, oe3) :: (X.pn ++ pins))) S3 n3 (wpAny_items_nil ⟨by size_fits, ?_⟩)))))))
    have kp : ∀ q o, h3.get? q = some o → (h3.push { cls := .type "tuple", data := .seq [c1, c2, c3].toArray }).get? q = some o := fun _ _ z => Heap.get?_push_of_some _ z
    have ty : PySem.W.Looks (model X.prog X.w) (h3.push { cls := .type "tuple", data := .seq [c1, c2, c3].toArray }) (typeOf (.ref a)) cls := fun A Q E s k q => wpAny_typeOf_ref (k _ _ (kp _ _ he3)) (by rw [hz3.1]; exact q)
    have fl4 := flying_kept kp fl3
    have up4 : h3.UpToSlots (h3.push { cls := .type "tuple", data := .seq [c1, c2, c3].toArray }) := .of_keeps kp
    have J4 : Inv X pins σ' H' { s' with heap := h3.push { cls := .type "tuple", data := .seq [c1, c2, c3].toArray } } := J.landed nb fl4.1 (up13.trans up4) os ag
    refine (PySem.W.exm_tup3 J4.kIn ty (Heap.get?_push_size h3 rfl) yes).here ?_
    refine codeAny_handlers_suite_as (HandSPX.lands_againZ fl4 fun h5 fl5 up5 => ?_)
    have J5 : Inv X pins σ' H' { s' with heap := h5 } := J.landed nb fl5.1 ((up13.trans up4).trans up5) os ag
    obtain ⟨oe5, vs5, he5, hz5, hd5⟩ := fl5.there
    have S5 := J5.suite he5 hd5 na nL nF
    refine store_ok (X := X.suite a ((a, oe5) :: (X.pn ++ pins))) (v := .ref a) S5 hN hi loc rfl (fun s6 S6 => ?_) (.inr hln)
    refine wpAny_mono ((hsu a oe5 cls d (X.pn ++ pins) hz5 ⟨_, hd5⟩).run [] s6 _ H' _ S6 (go a na J.len)) (fun f s7 hsp => ?_) (fun _ _ z => False.elim z)
    have fin : ∀ {σ7 : L2.St} {H7 : Hp} {Q : Shared → Prop}, Inv (X.suite a ((a, oe5) :: (X.pn ++ pins))) [] σ7 H7 s7 → (∀ s8, Inv X pins (σ7.set i none) H7 s8 → Q s8) →
        wpAny (model X.prog X.w) X.A (do bindName X.env n .none; unbindBehindTheSuite X.env n pos') (fun _ s8 => Q s8) X.xe s7 := fun S7 q => gone_ok (S7.unsuite ok) hN hi hln q
    match f, hsp with
    | .next, ⟨_, _, S7, q⟩ => exact fin S7 fun s8 J8 => ⟨_, _, J8, q⟩
    | .brk, ⟨_, _, S7, q⟩ => exact fin S7 fun s8 J8 => ⟨_, _, J8, q⟩
    | .cont, ⟨_, _, S7, q⟩ => exact fin S7 fun s8 J8 => ⟨_, _, J8, q⟩
    | .ret u, ⟨v, _, _, S7, r, q⟩ => exact fin S7 fun s8 J8 => ⟨_, _, _, J8, r, q⟩
  · match f, hsp with
    | .next, ⟨σ', H', J', q⟩ => exact wpAny_execs_nil ⟨σ', H', J'.ofTry ok, q⟩
    | .brk, ⟨σ', H', J', q⟩ => exact ⟨σ', H', J'.ofTry ok, q⟩
    | .cont, ⟨σ', H', J', q⟩ => exact ⟨σ', H', J'.ofTry ok, q⟩
    | .ret u, ⟨v, σ', H', J', r, q⟩ => exact ⟨v, σ', H', J'.ofTry ok, r, q⟩
end
end VG

set_option maxRecDepth 100000
/-! A def that is called within a suite with the exception that is in hand; it reads its fields and raises nothing. -/
namespace VG
open PySem PySem.Spec PyProof.Rows L2
open L2H (RoomH PinOk cxH inv_startH)
/-- p: the exception's address and its object -/
structure FnE (P : Program) (w : World) (K : PySem.W.Frag) (mg : Str → Option Value) (base : Heap) (CX : CXT) (k : Nat) (f : Addr) (fd : FuncData) (ps : List Str) (sp : Addr × Obj → Sp) : Prop where
  many : ∀ p vs H Q E, sp p vs H Q E → vs.length = ps.length
  runs : ∀ (A : Around) (outer : List Env) (s : Shared) (H : Hp) (args : Args) (us : List Value) (vs : List V) (Q : VK) (E : XK) (p : Addr × Obj), RoomH k A → PinOk outer H s p → Env0 P w K mg base A outer s H →
    BindsTo s fd args (ps.zip us) → Vals vs us → sp p vs H Q E → codeAny (model P w) A (.call (.ref f) args) (CR CX outer P w H s Q E) s
section
variable {P : Program} {w : World} {K : PySem.W.Frag} {mg : Str → Option Value} {base : Heap}
theorem okE {x qual : Str} {st : Stmt} {f : Addr} {fd : FuncData} {N ps : List Str} {k : Nat} {sp : Addr × Obj → Sp} (F : Fun K x qual st f fd) (S : FnScope N ps (defScope st)) (many : ∀ p vs H Q E, sp p vs H Q E → vs.length = ps.length)
    (body : ∀ (cdv : Value) (A : Around) (outer : List Env) (s : Shared) (H : Hp) (vs : List V) (Q : VK) (E : XK) (p : Addr × Obj), RoomH k (A.deeper (envOfC qual (defScope st) s.heap.objs.size f cdv)) → sp p vs H Q E →
      ∃ t, PSs (cxH CX0 P w K mg base N qual (defScope st) f cdv A outer s H E p).nox (defBody st) t ∧ t { nx := fun _ H' => Q .non H', rt := Q } (L2.start N vs) H) : FnE P w K mg base CX0 (k + 1) f fd ps sp := by
  obtain ⟨oc, od, kV, doc, pm, an, cdv, ct, osl, rfl, lk, hcd⟩ := F.ex
  refine ⟨many, fun A outer s H args us vs Q E p hr pin e0 hb r q => ?_⟩
  have hl := many _ _ _ _ _ q
  have KX : K.In s.heap := e0.mod.kin.keeps fun b o e => (e0.bs b o e).1
  have lim : s.heap.NoLimit := e0.mod.nolimit.keeps fun b o e => (e0.bs b o e).1
  have kinds : ∀ y ∈ ps.zip us, (defScope st).names.lookup y.1 = some .local ∨ ((defScope st).names.lookup y.1 = some .cell ∧ ((cellsFrom (s.heap.objs.size + 1) (defScope st).names []).lookup y.1).isSome = true) := fun ⟨n, v⟩ hy => by
    rcases S.par n (List.of_mem_zip hy).1 with z | z
    · exact .inl z
    · exact .inr ⟨z, PySem.W.cellsFrom_some _ _ _ (.inl z)⟩
  refine codeAny_call_function hr.depth (KX _ _ lk) rfl S.co S.gen rfl (PySem.W.codeRec_of KX hcd) (hb _ _ _ _ ?_)
  refine wpAny_newFunctionEnv_cells S.kind kinds fun env he s1 x1 => ?_
  subst he
  refine ⟨lim.keeps x1.toInCall.keep, codeAny_func ?_⟩
  obtain ⟨t, ht, hq⟩ := body cdv A outer s H vs Q E p (hr.deeper _) q
  have I : Inv (cxH CX0 P w K mg base N qual (defScope st) f cdv A outer s H E p) [] (L2.start N vs) H s1 := inv_startH S pin e0 hl r x1
  refine wpAny_mono (ht.nox.run [] s1 (L2.start N vs) H _ I hq) (fun fl s' hs => ?_) fun e s' hs => hs
  match fl, hs with
  | .ret u, ⟨v, _, H', J, rv, z⟩ => exact ⟨v, H', J.os, J.bare, J.base, J.hok, rv, z⟩
  | .next, ⟨_, H', J, z⟩ => exact ⟨V.non, H', J.os, J.bare, J.base, J.hok, rfl, z⟩
  | .brk, ⟨_, _, _, z⟩ => exact z.elim
  | .cont, ⟨_, _, _, z⟩ => exact z.elim
end
section
variable {X : Cx} {CX : CXT} {k : Nat} {f : Addr} {fd : FuncData} {ps : List Str} {sp : Addr × Obj → Sp} {E : XK} {x : Str} {q pos : Pos} {e : Expr} {es : List Expr} {t : TA} {p : Addr × Obj}
theorem pe_callE (F : FnE X.prog X.w X.K X.mg X.base CX k f fd ps sp) (hr : RoomH k X.A) (hp : p ∈ X.pn) (hg : Gl X x) (hm : X.mg x = some (.ref f)) (hk : PySem.W.keepIn X.K (.ref f) = true) (hb : Binds X.K fd ps []) (hx : Passes CX X E)
    (ha : PA X (e :: es) t) (n1 : (x == ("__debug__" : Str)) = false := by decide) (n2 : starEach (e :: es) X.env = (false, eval e X.env) :: starEach es X.env := by rfl)
    (n3 : (backTo pos (starEach es X.env)).any (·.1) = false := by rfl) : PE X (.Call (.Name x q) (e :: es) [] pos) (tCall (sp p) [] E t) := by
  refine ⟨fun pins s σ H Q I q0 => wpAny_Call_Name_kw (ld_glob I hg hm (PySem.W.callWith_K (h₀ := X.base) I.ok.mod.kin hk (thn (ha.run pos pins s σ H _ I q0) fun us s1 ⟨vs, H1, I1, r, q⟩ => ⟨I1.kIn, ?_⟩) n2 n3) n1)⟩
  have q : sp p (vs ++ []) H1 Q E := q
  rw [List.append_nil] at q
  have l2 : (us ++ []).length = ps.length := by
    rw [List.append_nil]
    exact r.length.symm.trans (F.many _ _ _ _ _ q)
  have b := hb s1 us I1.kIn l2
  rw [List.append_nil] at b
  have P1 := I1.pin p (List.mem_append_left _ hp)
  have pin : PinOk X.stack H1 s1 p := ⟨P1.1, P1.2.1, fun hm => (List.mem_cons.mp (I1.stkSub p.1 hm)).elim P1.2.2.1 P1.2.2.2.1, P1.2.2.2.2⟩
  refine wpAny_call (codeAny_mono (F.runs X.A X.stack s1 H1 ⟨us, []⟩ us vs Q E p hr pin I1.env0 b r q) fun res s' z => ?_)
  match res, z with
  | .error err, z => exact hx pins σ H1 s1 err s' I1 z
  | .ok (.ret u), z => exact I1.after z
  | .ok .next, z => exact z.elim
  | .ok .brk, z => exact z.elim
  | .ok .cont, z => exact z.elim
end
/-! ### e.f of the exception in hand, whatever its class -/
def exFields : List Str := ["code", "given", "at", "path", "name", "word", "layer", "start", "goal", "limit", "line", "subject", "most"]
/-- a class of errors whose fields are its instances' own -/
structure OwnX (K : PySem.W.Frag) (C : Addr) : Prop where
  xf : XfC K C
  no : ∀ f ∈ exFields, PySem.W.findIn K (.ref C) f = some none
def ownXB (K : PySem.W.Frag) (C : Addr) : Bool := xfB K C && exFields.all fun f => decide (PySem.W.findIn K (.ref C) f = some none)
theorem ownX_of {K : PySem.W.Frag} {C : Addr} (h : ownXB K C = true) : OwnX K C := by
  obtain ⟨h1, h2⟩ := Bool.and_eq_true_iff.mp h
  exact ⟨xfB_ok h1, fun f hf => of_decide_eq_true (List.all_eq_true.mp h2 f hf)⟩
def tXp (K : PySem.W.Frag) (p : Addr × Obj) (f : Str) (te : TE) : TE := fun σ H Q => te σ H fun x H1 => x = .ref p.1 ∧ ∃ (C dd : Addr) (fs : List (Str × V)) (v : V), p.2.cls = .ref C ∧ OwnX K C ∧ p.2.dict = some dd ∧ (∃ vs, p.2.data = .fields vs) ∧
  H1 dd = some (.xd fs) ∧ fs.lookup f = some v ∧ Q v H1
theorem pe_xp {X : Cx} {p : Addr × Obj} {e : Expr} {te : TE} {pos : Pos} {n : Str} (hp : p ∈ X.pn) (hn : n ∈ exFields) (he : PE X e te) (hb : attributeBase e n X.env (eval e X.env) = eval e X.env := by rfl) : PE X (.Attribute e n pos) (tXp X.K p n te) := by
  refine ⟨fun pins s σ H Q I h => attr_of hb (thn (he.run pins s σ H _ I h) fun u s1 hh => ?_)⟩
  obtain ⟨x, H1, I1, rx, ex, C, dd, fs, v, ec, T, ed, ⟨vs, hd⟩, ea, l, q⟩ := hh
  subst ex
  obtain rfl : u = Value.ref p.1 := rx
  obtain ⟨ha, _⟩ := I1.pin p (List.mem_append_left _ hp)
  obtain ⟨mA, hns, hr⟩ := (show ObjOk X.prog X.w H1 s1.heap dd (.xd fs) from I1.hok dd _ ea)
  obtain ⟨od, ho, hl⟩ := lookIn_ns hns
  obtain ⟨u, hu, ru⟩ := RelO.some_of (v := v) (o := mA n) (by rw [← l]; exact hr n)
  have J : PySem.W.InstAt s1.heap p.1 p.2 C (some od) := ⟨ha, ec, by unfold PySem.W.notCls; rw [hd] <;> rfl, by rw [ed]; exact ho⟩
  exact HandSPX.exc_get I1.kIn J T.xf.ga T.xf.gg T.xf.exC (PySem.W.findObj_own T.xf.hdC (T.no n hn) rfl (by rw [hl, hu])) (handed_of ru) ⟨v, H1, I1.tok _, ru, q⟩
end VG

set_option maxRecDepth 100000
namespace Lw
open PySem L2 VG
def topS (i : Nat) : Stmt := PySem.Challenge.pw_missingmiles_k23_whole_texts_of_steps_re.main.body.getD i (.Pass ⟨0, 0, 0, 0⟩)
abbrev s_copied : Stmt := topS 2
abbrev s_MilesError : Stmt := topS 4
abbrev s_InvalidRatio : Stmt := topS 5
abbrev s_InvalidText : Stmt := topS 6
abbrev s__is_whole : Stmt := topS 9
abbrev s_is_number : Stmt := topS 10
abbrev s_is_ratio : Stmt := topS 11
abbrev s_can_be_ratio : Stmt := topS 12
abbrev s_is_length : Stmt := topS 13
abbrev s_is_scale : Stmt := topS 14
abbrev s_ratio_of : Stmt := topS 15
abbrev s__figures : Stmt := topS 16
abbrev s_ratio_text : Stmt := topS 17
abbrev s__are_figures : Stmt := topS 18
abbrev s_read_ratio : Stmt := topS 19
abbrev s_ratio_or_none : Stmt := topS 20
abbrev s__are_letters : Stmt := topS 23
abbrev s_is_name : Stmt := topS 24
abbrev s_is_layer : Stmt := topS 25
abbrev s_is_item : Stmt := topS 30
abbrev s_text_of : Stmt := topS 33
abbrev s__words_of : Stmt := topS 34
abbrev s__step_words : Stmt := topS 35
abbrev s__item_words : Stmt := topS 36
abbrev s__bracketed : Stmt := topS 37
abbrev s_read_steps : Stmt := topS 38
abbrev s_Reader : Stmt := topS 39
abbrev sSource : Stmt := topS 41
abbrev sDraw : Stmt := topS 42
abbrev sOf : Stmt := topS 43
abbrev s__law_mixed : Stmt := topS 44
abbrev sSame : Stmt := topS 45
abbrev s__law_low : Stmt := topS 46
abbrev s__law_names : Stmt := topS 47
abbrev s__law_length : Stmt := topS 48
abbrev s__law_bare : Stmt := topS 49
abbrev s__law_pair : Stmt := topS 50
abbrev s__law_layer : Stmt := topS 51
abbrev s__law_some_step : Stmt := topS 52
abbrev s__law_ends : Stmt := topS 53
abbrev s__law_still : Stmt := topS 54
abbrev s__law_test : Stmt := topS 55
abbrev s__law_steps : Stmt := topS 56
abbrev s__law_text : Stmt := topS 57
abbrev s__law_words : Stmt := topS 58
abbrev s__law_deep_steps : Stmt := topS 59
abbrev s__law_in_pairs : Stmt := topS 60
abbrev sLaw : Stmt := topS 61
/-! ### the source of draws -/
def srcL (q : Addr) (i c seed n : Int) : List V := [.ref q, .int i, .int c, .int seed, .int n]
structure Src (H : Hp) (p q : Addr) (cells : List Int) : Prop where
  ex : ∃ i c seed n : Int, H p = some (.lst (srcL q i c seed n)) ∧ 0 ≤ i ∧ 0 ≤ c
  cs : H q = some (.lst (cells.map V.int))
  few : cells.length ≤ 63
  ne : p ≠ q
/-- all but p is as it was -/
def But (p : Addr) (H H' : Hp) : Prop := ∀ b, b ≠ p → H' b = H b
theorem But.refl (p : Addr) (H : Hp) : But p H H := fun _ _ => rfl
theorem But.trans {p : Addr} {H H1 H2 : Hp} (a : But p H H1) (b : But p H1 H2) : But p H H2 := fun c n => (b c n).trans (a c n)
theorem But.upd {p : Addr} {H : Hp} {o : HO} : But p H (upd H p o) := fun _ n => upd_ne n
def spSource (K : PySem.W.Frag) : Sp := fun vs H Q _ => ∃ (a : Addr) (ns : List Int), vs = [.ref a] ∧ SqL K H a (ns.map V.int) ∧ ns.length ≤ 63 ∧
  ∀ (p q : Addr) (H' : Hp), H p = none → H q = none → Same H H' → Src H' p q ns → Q (.ref p) H'
def spDraw : Sp := fun vs H Q _ => ∃ (p q : Addr) (cells : List Int) (m : Int), vs = [.ref p, .int m] ∧ Src H p q cells ∧ 0 < m ∧ m < 2 ^ 100 ∧
  ∀ (r : Int) (H' : Hp), 0 ≤ r → r < m → Src H' p q cells → But p H H' → Q (.int r) H'
/-- what the law's helpers ask of the names of the top -/
structure Nm (mg : Str → Option Value) : Prop where
  int : mg "int" = none
  len : mg "len" = none
  list : mg "list" = none
  repr : mg "repr" = none
section
variable {P : Program} {w : World} {K : PySem.W.Frag} {mg : Str → Option Value} {base : Heap}
theorem scSource : FnScope ["_law_script", "_law_seed", "_law_cell"] ["_law_script"] (defScope sSource) := ⟨rfl, rfl, rfl, by decide +kernel, rfl, by decide +kernel, by decide +kernel⟩
theorem scDraw : FnScope ["_law_src", "_law_many", "_law_cell", "_law_digit", "_law_root", "_law_grown"] ["_law_src", "_law_many"] (defScope sDraw) := ⟨rfl, rfl, rfl, by decide +kernel, rfl, by decide +kernel, by decide +kernel⟩
theorem ok_draw {f : Addr} {fd : FuncData} (F : Fun K "_law_draw" "_law_draw" sDraw f fd) (T : Nm mg) : FnOk P w K mg base CX0 1 f fd ["_law_src", "_law_many"] spDraw := by
  refine F.ok scDraw (fun vs H Q E h => ?_) (fun cdv A outer s H vs Q E hr h => ?_)
  · obtain ⟨p, q, cells, m, rfl, _⟩ := h
    rfl
  · obtain ⟨p, q, cells, m, rfl, ⟨⟨i, c, seed, n, hp, hi, hc⟩, hq, hfew, hne⟩, hm0, hm1, k⟩ := h
    have nd := scDraw.nd
    refine ⟨_, C8.pss_cut (ps_if (PW.pt (pw_and (pt_cmpR op_lt (pe_ix ix_list (pv 0) pe_int fun _ _ => rfl) (pv 1) (nomark _))
          (pw_and1 (pt_cmpR op_lt (pe_ix ix_list (pv 0) pe_int fun _ _ => rfl) (pe_callB call_len_seq (by rfl) T.len PySem.boot_len (pa_cons (pe_ix ix_list (pv 0) pe_int fun _ _ => rfl) pa_nil)) (nomark _)))))
        (pss_cons (ps_set (i := 2) nd rfl (Or.inl rfl) (pe_ix ix_list (pe_ix ix_list (pv 0) pe_int fun _ _ => rfl) (pe_ix ix_list (pv 0) pe_int fun _ _ => rfl) fun _ _ => rfl))
        (pss_cons (ps_asg (pe_op op_add (pe_ix ix_list (pv 0) pe_int fun _ _ => rfl) pe_int) (pg_sub (pv 0) pe_int set_list))
        (pss_cons (ps_asg (pe_op op_mod (pe_callTy call_int1 (by rfl) T.int (by decide +kernel) (pa_cons (pe_op op_add (pe_op op_add (pe_op op_mul (pe_ix ix_list (pv 0) pe_int fun _ _ => rfl) pe_int)
            (pe_op op_mod (pe_callTy call_int1 (by rfl) T.int (by decide +kernel) (pa_cons (pv 2) pa_nil)) pe_int)) pe_int) pa_nil)) pe_int) (pg_sub (pv 0) pe_int set_list))
        (pss_one (ps_asg (pe_ifExp (pt_cmpR op_ge (pv 2) (pe_op op_pow pe_int pe_int) (nomark _)) (pv 2) pe_int) (pg_sub (pv 0) pe_int set_list)))))) pss_nil)
      (pss_cons (ps_if (pt_cmpR op_ge (pe_ix ix_list (pv 0) pe_int fun _ _ => rfl) (pv 1) (nomark _))
        (pss_cons (ps_set (i := 3) nd rfl (Or.inl rfl) (pe_op op_mod (pe_callTy call_int1 (by rfl) T.int (by decide +kernel) (pa_cons (pe_ix ix_list (pv 0) pe_int fun _ _ => rfl) pa_nil)) (pv 1)))
        (pss_cons (ps_asg (pe_op op_fdivW (pe_ix ix_list (pv 0) pe_int fun _ _ => rfl) (pv 1)) (pg_sub (pv 0) pe_int set_list))
        (pss_one (ps_ret (pv 3))))) pss_nil)
      (pss_cons (ps_asg (pe_op op_add (pe_ix ix_list (pv 0) pe_int fun _ _ => rfl) pe_int) (pg_sub (pv 0) pe_int set_list))
      (C8.pss_cut (ps_set (i := 4) nd rfl (Or.inl rfl) (pe_op op_mod (pe_callTy call_int1 (by rfl) T.int (by decide +kernel) (pa_cons (pe_op op_add (pe_ix ix_list (pv 0) pe_int fun _ _ => rfl)
          (pe_op op_mul (pe_ix ix_list (pv 0) pe_int fun _ _ => rfl) pe_int)) pa_nil)) pe_int))
      (pss_cons (ps_set (i := 5) nd rfl (Or.inl rfl) (pe_op op_mul (pe_op op_mod (pe_callTy call_int1 (by rfl) T.int (by decide +kernel) (pa_cons (pe_op op_mul (pv 4) (pv 4)) pa_nil)) pe_int)
          (pe_op op_add (pe_op op_mod (pe_callTy call_int1 (by rfl) T.int (by decide +kernel) (pa_cons (pv 4) pa_nil)) pe_int) pe_int)))
      (pss_cons (ps_asg (pe_op op_mod (pe_callTy call_int1 (by rfl) T.int (by decide +kernel) (pa_cons (pe_op op_add (pe_op op_add (pv 5) (pe_op op_mul pe_int (pv 4))) pe_int) pa_nil)) pe_int) (pg_sub (pv 0) pe_int set_list))
      (pss_one (ps_ret (pe_op op_mod (pe_callTy call_int1 (by rfl) T.int (by decide +kernel) (pa_cons (pe_op op_add (pe_op op_fdiv (pe_ix ix_list (pv 0) pe_int fun _ _ => rfl) pe_int)
          (pe_op op_mul (pe_op op_mod (pe_callTy call_int1 (by rfl) T.int (by decide +kernel) (pa_cons (pe_ix ix_list (pv 0) pe_int fun _ _ => rfl) pa_nil)) pe_int) pe_int)) pa_nil)) (pv 1))))))))), ?_⟩
    -- behind the first if the source is as it may be
    refine ⟨fun σ H1 => ∃ cell, σ = [some (.ref p), some (.int m), cell, none, none, none] ∧ Src H1 p q cells ∧ But p H H1, ?_, ?_⟩
    · refine ⟨_, rfl, _, _, _, _, rfl, rfl, SqL.of hp, rfl, _, rfl, _, _, rfl, rfl, _, rfl, ?_⟩
      refine ite2 (fun hlt => ?_) (fun _ => iteF ⟨_, rfl, ⟨⟨i, c, seed, n, hp, hi, hc⟩, hq, hfew, hne⟩, But.refl _ _⟩)
      refine ⟨_, rfl, _, _, _, _, rfl, rfl, SqL.of hp, rfl, _, rfl, _, _, _, _, rfl, rfl, SqL.of hp, rfl, q, _, rfl, .inl (SqL.of hq), _, _, rfl, rfl, _, rfl, ?_⟩
      refine ite2 (fun hlt2 => ?_) (fun _ => ⟨_, rfl, ⟨⟨i, c, seed, n, hp, hi, hc⟩, hq, hfew, hne⟩, But.refl _ _⟩)
      have hlt2 : i < ((cells.map V.int).length : Int) := of_decide_eq_true hlt2
      rw [List.length_map] at hlt2
      obtain ⟨j, rfl⟩ := Int.eq_ofNat_of_zero_le hi
      have hj : j < cells.length := by omega
      have hcell : (cells.map V.int)[j]? = some (V.int cells[j]) := by rw [List.getElem?_map, List.getElem?_eq_getElem hj]; rfl
      have hqp : ∀ {H' : Hp}, But p H H' → H' q = some (.lst (cells.map V.int)) := fun b => (b q hne.symm).trans hq
      refine ⟨_, rfl, _, _, _, _, rfl, rfl, SqL.of hp, rfl, _, rfl, _, _, _, _, rfl, rfl, SqL.of hp, rfl, q, _, _, _, rfl, rfl, SqL.of hq, atI_nat hcell, ?_⟩
      -- _law_src[1] = _law_src[1] + 1
      refine ⟨_, rfl, _, _, _, _, rfl, rfl, SqL.of hp, rfl, _, _, rfl, rfl, _, rfl, p, _, _, _, rfl, rfl, hp, rfl, ?_⟩
      -- _law_src[3] = ..
      refine ⟨_, rfl, _, _, _, _, rfl, rfl, SqL.of upd_same, rfl, _, _, rfl, rfl, .inr ⟨by decide, by decide⟩, _, rfl, .inl ⟨_, rfl, _, _, rfl, rfl, (by show (0 : Int) < 2147483323; decide), _, _, rfl, rfl, _, _, rfl, rfl, .inl ⟨_, rfl, _, _, rfl, rfl, (by show (0 : Int) < 2147483549; decide), _, rfl, p, _, _, _, rfl, rfl, upd_same, rfl, ?_⟩⟩⟩
      -- _law_src[2] = ..
      refine ⟨_, rfl, _, _, rfl, rfl, ⟨by decide, by decide, by decide⟩, _, _, rfl, rfl, _, rfl, ?_⟩
      refine ite2 (fun hge => ?_) (fun _ => ?_)
      · refine ⟨_, rfl, _, rfl, p, _, _, _, rfl, rfl, upd_same, rfl, ⟨_, rfl, ⟨⟨_, _, _, _, upd_same, by omega, ?_⟩, ?_, hfew, hne⟩, ?_⟩⟩
        · have z := of_decide_eq_true hge
          exact Int.le_trans (by decide) z
        · exact hqp (But.trans (But.trans But.upd But.upd) But.upd)
        · exact But.trans (But.trans But.upd But.upd) But.upd
      · exact ⟨_, rfl, p, _, _, _, rfl, rfl, upd_same, rfl, ⟨_, rfl, ⟨⟨_, _, _, _, upd_same, by omega, Int.le_refl _⟩, hqp (But.trans (But.trans But.upd But.upd) But.upd), hfew, hne⟩, But.trans (But.trans But.upd But.upd) But.upd⟩⟩
    · rintro σ H1 ⟨cell, rfl, ⟨⟨i, c, seed, n, hp, hi, hc⟩, hq, _, _⟩, hB⟩
      -- if _law_src[2] >= _law_many
      refine ⟨_, rfl, _, _, _, _, rfl, rfl, SqL.of hp, rfl, _, rfl, _, _, rfl, rfl, _, rfl, ?_⟩
      refine ite2 (fun _ => ?_) (fun _ => ?_)
      · refine ⟨_, rfl, _, _, _, _, rfl, rfl, SqL.of hp, rfl, .inl ⟨_, rfl, _, rfl, _, _, rfl, rfl, hm0, ?_⟩⟩
        refine ⟨_, rfl, _, _, _, _, rfl, rfl, SqL.of hp, rfl, _, rfl, _, _, rfl, rfl, wide_div hm0 (b := 100) (by omega) (by decide) (by decide), _, rfl, p, _, _, _, rfl, rfl, hp, rfl, ?_⟩
        exact ⟨_, rfl, k _ _ (Int.emod_nonneg _ (by omega)) (Int.emod_lt_of_pos _ hm0) ⟨⟨_, _, _, _, upd_same, hi, Int.ediv_nonneg hc (Int.le_of_lt hm0)⟩, (upd_ne hne.symm).trans hq, hfew, hne⟩ (But.trans hB But.upd)⟩
      · -- _law_src[4] = _law_src[4] + 1
        refine ⟨_, rfl, _, _, _, _, rfl, rfl, SqL.of hp, rfl, _, _, rfl, rfl, _, rfl, p, _, _, _, rfl, rfl, hp, rfl, ?_⟩
        -- _law_root
        refine ⟨fun σ H2 => ∃ root : Int, 0 ≤ root ∧ root < 2147483629 ∧ σ = [some (.ref p), some (.int m), cell, none, some (.int root), none] ∧ H2 = upd H1 p (.lst (srcL q i c seed (n + 1))), ?_, ?_⟩
        · refine ⟨_, rfl, _, _, _, _, rfl, rfl, SqL.of upd_same, rfl, _, rfl, _, _, _, _, rfl, rfl, SqL.of upd_same, rfl, _, _, rfl, rfl, .inr ⟨by decide, by decide⟩, _, _, rfl, rfl, .inl ⟨_, rfl, _, _, rfl, rfl, (by show (0 : Int) < 2147483629; decide), ?_⟩⟩
          exact ⟨_, Int.emod_nonneg _ (by decide), Int.emod_lt_of_pos _ (by decide), rfl, rfl⟩
        · rintro σ H2 ⟨root, r0, r1, rfl, rfl⟩
          -- _law_grown
          refine ⟨_, rfl, _, rfl, _, _, rfl, rfl, .inl ⟨by omega, by omega⟩, .inl ⟨_, rfl, _, _, rfl, rfl, (by show (0 : Int) < 2147483399; decide), ?_⟩⟩
          refine ⟨_, rfl, .inl ⟨_, rfl, _, _, rfl, rfl, (by show (0 : Int) < 39989; decide), _, _, rfl, rfl, _, _, rfl, rfl, .inl ⟨?_, ?_⟩, ?_⟩⟩
          · exact Int.lt_of_lt_of_le (by decide) (Int.emod_nonneg _ (by decide))
          · exact Int.lt_of_lt_of_le (Int.emod_lt_of_pos _ (by decide)) (by decide)
          -- _law_src[3]
          refine ⟨_, rfl, _, rfl, _, _, rfl, rfl, .inl ⟨by decide, by decide⟩, _, _, rfl, rfl, _, _, rfl, rfl, .inl ⟨_, rfl, _, _, rfl, rfl, (by show (0 : Int) < 2147483549; decide), _, rfl, p, _, _, _, rfl, rfl, upd_same, rfl, ?_⟩⟩
          -- return
          refine ⟨_, rfl, _, _, _, _, rfl, rfl, SqL.of upd_same, rfl, _, _, rfl, rfl, ⟨by decide, by decide⟩, _, rfl, _, _, _, _, rfl, rfl, SqL.of upd_same, rfl, .inl ⟨_, rfl, _, _, rfl, rfl, (by show (0 : Int) < 8521; decide), _, _, rfl, rfl, .inr ⟨by decide, by decide⟩, _, _, rfl, rfl, .inl ⟨_, rfl, _, rfl, _, _, rfl, rfl, hm0, ?_⟩⟩⟩
          exact k _ _ (Int.emod_nonneg _ (by omega)) (Int.emod_lt_of_pos _ hm0) ⟨⟨_, _, _, _, upd_same, hi, hc⟩, by rw [upd_ne hne.symm, upd_ne hne.symm]; exact hq, hfew, hne⟩ (But.trans hB (But.trans But.upd But.upd))
theorem ok_source {f : Addr} {fd : FuncData} (F : Fun K "_law_source" "_law_source" sSource f fd) (T : Nm mg) : FnOk P w K mg base CX0 1 f fd ["_law_script"] (spSource K) := by
  refine F.ok scSource (fun vs H Q E h => ?_) (fun cdv A outer s H vs Q E hr h => ?_)
  · obtain ⟨a, ns, rfl, _⟩ := h
    rfl
  · obtain ⟨a, ns, rfl, hS, hl, k⟩ := h
    have nd := scSource.nd
    have cut : cutV (ns.map V.int) none (some 63) = ns.map V.int := by
      unfold cutV HT.sIx
      rw [List.drop_zero, List.length_map]
      refine List.take_of_length_le ?_
      rw [List.length_map]
      show ns.length ≤ min 63 ns.length - 0
      omega
    refine ⟨_, pss_cons (ps_set (i := 1) nd rfl (Or.inl rfl) pe_int)
      (pss_cons (ps_for PassesOwn.never rfl (pi_list (pe_slice sl_list (pv 0) po_none (po_some pe_int))) (pg_name (i := 2) nd rfl (Or.inl rfl))
        (pss_one (ps_set (i := 1) nd rfl (Or.inl rfl) (pe_op op_mod (pe_callTy call_int1 (by rfl) T.int (by decide +kernel) (pa_cons (pe_op op_add (pe_op op_add (pe_op op_mul (pv 1) pe_int)
            (pe_op op_mod (pe_callTy call_int1 (by rfl) T.int (by decide +kernel) (pa_cons (pv 2) pa_nil)) pe_int)) pe_int) pa_nil)) pe_int))))
      (pss_one (ps_ret (pe_lst (pa_cons (pe_callTy call_list_of (by rfl) T.list (by decide +kernel) (pa_cons (pe_slice sl_list (pv 0) po_none (po_some pe_int)) pa_nil))
        (pa_cons pe_int (pa_cons pe_int (pa_cons (pv 1) (pa_cons pe_int pa_nil))))))))), ?_⟩
    refine ⟨_, rfl, _, rfl, a, _, rfl, hS, fun u hu => ?_⟩
    rw [cut]
    have sm : Same H (upd H u (.lst (ns.map V.int))) := fun b o e => by rw [upd_ne (ne_of_none e hu)]; exact e
    refine ⟨u, rfl, ⟨_, SqL.of upd_same⟩, for_list (K := K) (a := u) (xs := ns.map V.int) (fun i σ H2 => ∃ (sd : Int) (v : Option V), σ = [some (.ref a), some (.int sd), v] ∧ H2 = upd H u (.lst (ns.map V.int)))
      ⟨_, _, rfl, rfl⟩ (fun i σ H2 _ ⟨_, _, _, e⟩ => e ▸ SqL.of upd_same) ?_ ?_⟩
    · rintro i y σ H2 hi ⟨sd, v, rfl, rfl⟩
      obtain ⟨z, rfl⟩ : ∃ z, y = V.int z := by
        rw [List.getElem?_map] at hi
        obtain ⟨z, _, e⟩ := Option.map_eq_some_iff.mp hi
        exact ⟨z, e.symm⟩
      exact ⟨_, rfl, _, _, rfl, rfl, .inr ⟨by decide, by decide⟩, _, rfl, .inl ⟨_, rfl, _, _, rfl, rfl, (by show (0 : Int) < 2147483353; decide), _, _, rfl, rfl, _, _, rfl, rfl, .inl ⟨_, rfl, _, _, rfl, rfl, (by show (0 : Int) < 2147483587; decide), _, _, rfl, rfl⟩⟩⟩
    · rintro σ H2 ⟨sd, v, rfl, rfl⟩
      refine ⟨_, rfl, _, rfl, a, _, rfl, sm.seq hS, fun u2 hu2 => ?_⟩
      rw [cut]
      refine ⟨u2, _, rfl, .inl (SqL.of upd_same), fun u3 hu3 => ⟨_, rfl, by show 5 ≤ sizeLine; decide, fun p hp => ?_⟩⟩
      have n3 : u3 ≠ p := fun z => by rw [z, upd_same] at hp; cases hp
      have sm2 : Same H (upd (upd (upd H u (.lst (ns.map V.int))) u2 (.lst (ns.map V.int))) u3 (.lst (ns.map V.int))) := fun b o e => by
        rw [upd_ne (ne_of_none (by rw [upd_ne (ne_of_none (sm b o e) hu2)]; exact sm b o e) hu3), upd_ne (ne_of_none (sm b o e) hu2)]
        exact sm b o e
      have sm3 : Same H (upd (upd (upd H u (.lst (ns.map V.int))) u2 (.lst (ns.map V.int))) u3 (.lst (ns.map V.int))) := sm2
      refine k p u3 _ (sm2.free hp) ?_ (fun b o e => ?_) ⟨⟨0, 0, sd, 0, upd_same, Int.le_refl _, Int.le_refl _⟩, ?_, hl, n3.symm⟩
      · have e1 : Same H (upd (upd H u (.lst (ns.map V.int))) u2 (.lst (ns.map V.int))) := fun b o e => by
          rw [upd_ne (ne_of_none (sm b o e) hu2)]
          exact sm b o e
        exact e1.free hu3
      · rw [upd_ne (ne_of_none (sm2 b o e) hp)]
        exact sm2 b o e
      · rw [upd_ne n3, upd_same]
/-! ### one of some things; are two data shown alike -/
def spOf (K : PySem.W.Frag) : Sp := fun vs H Q _ => ∃ (p q : Addr) (cells : List Int) (sv : V), vs = [.ref p, sv] ∧ Src H p q cells ∧
  ((∃ (a : Addr) (xs : List V), sv = .ref a ∧ (∀ H', But p H H' → SqL K H' a xs ∨ SqT K H' a xs) ∧ 0 < xs.length ∧ xs.length < 1000000 ∧
      ∀ (i : Nat) (x : V) (H' : Hp), xs[i]? = some x → Src H' p q cells → But p H H' → Q x H') ∨
    ∃ z : Str, sv = .str z ∧ 0 < z.length ∧ z.length < 1000000 ∧ ∀ (c : Nat) (H' : Hp), c ∈ z.cps.toList → Src H' p q cells → But p H H' → Q (.str ⟨#[c]⟩) H')
theorem scOf : FnScope ["_law_src", "_law_some"] ["_law_src", "_law_some"] (defScope sOf) := ⟨rfl, rfl, rfl, by decide +kernel, rfl, by decide +kernel, by decide +kernel⟩
theorem big : (1000000 : Nat) ≤ sizeLine := by decide
theorem ok_of {f fD : Addr} {fd fdD : FuncData} (F : Fun K "_law_of" "_law_of" sOf f fd) (T : Nm mg) (FD : Fun K "_law_draw" "_law_draw" sDraw fD fdD) (mD : mg "_law_draw" = some (.ref fD)) (bD : Binds K fdD ["_law_src", "_law_many"] []) :
    FnOk P w K mg base CX0 2 f fd ["_law_src", "_law_some"] (spOf K) := by
  have GD : FnOk P w K mg base CX0 1 fD fdD ["_law_src", "_law_many"] spDraw := ok_draw FD T
  refine F.ok scOf (fun vs H Q E h => ?_) (fun cdv A outer s H vs Q E hr h => ?_)
  · obtain ⟨p, q, cells, sv, rfl, _⟩ := h
    rfl
  · obtain ⟨p, q, cells, sv, rfl, hS, h⟩ := h
    refine ⟨_, pss_one (ps_ret (pe_ix ix_seq (pv 1) (pe_call GD hr (by rfl) mD FD.kp bD .nil pass0 (pa_cons (pv 0) (pa_cons (pe_callB call_len (by rfl) T.len PySem.boot_len (pa_cons (pv 1) pa_nil)) pa_nil))) fun _ _ => rfl)), ?_⟩
    rcases h with ⟨a, xs, rfl, hx, h0, h1, k⟩ | ⟨z, rfl, h0, h1, k⟩
    · refine ⟨_, rfl, _, rfl, _, rfl, _, xs.length, rfl, ?_, p, q, cells, _, rfl, hS, by omega, by omega, fun r H' r0 r1 S' B' => ?_⟩
      · rcases hx H (But.refl _ _) with z | z
        · exact .inl ⟨_, z, rfl⟩
        · exact .inr ⟨_, z, rfl⟩
      · obtain ⟨j, rfl⟩ := Int.eq_ofNat_of_zero_le r0
        have hj : j < xs.length := by omega
        have e : xs[j]? = some xs[j] := List.getElem?_eq_getElem hj
        rcases hx H' B' with z | z
        · exact .inl ⟨a, xs, _, _, rfl, rfl, z, atI_nat e, k j _ H' e S' B'⟩
        · exact .inr (.inl ⟨a, xs, _, _, rfl, rfl, z, atI_nat e, k j _ H' e S' B'⟩)
    · refine ⟨_, rfl, _, rfl, _, rfl, _, z.length, rfl, ⟨Nat.le_trans (Nat.le_of_lt h1) big, rfl⟩, p, q, cells, _, rfl, hS, by omega, by omega, fun r H' r0 r1 S' B' => ?_⟩
      obtain ⟨j, rfl⟩ := Int.eq_ofNat_of_zero_le r0
      have hl : z.cps.toList.length = z.length := by simp [Str.length]
      have hj : j < z.cps.toList.length := by omega
      have e : z.cps.toList[j]? = some z.cps.toList[j] := List.getElem?_eq_getElem hj
      exact .inr (.inr ⟨z, _, _, rfl, rfl, Nat.le_trans (Nat.le_of_lt h1) big, atI_nat e, k _ H' (List.getElem_mem hj) S' B'⟩)
def spSame (K : PySem.W.Frag) : Sp := fun vs H Q _ => ∃ (x y : V) (d e : PyData), vs = [x, y] ∧ Dp K H x d ∧ Dp K H y e ∧ Sm d ∧ Sm e ∧ Q (.bl (decide (d.shown = e.shown))) H
theorem scSame : FnScope ["_law_found", "_law_due"] ["_law_found", "_law_due"] (defScope sSame) := ⟨rfl, rfl, rfl, by decide +kernel, rfl, by decide +kernel, by decide +kernel⟩
theorem ok_same {f : Addr} {fd : FuncData} (F : Fun K "_law_same" "_law_same" sSame f fd) (T : Nm mg) : FnG P w K mg base CX0 1 f fd ["_law_found", "_law_due"] (spSame K) := by
  refine okG F scSame (fun vs H Q E h => ?_) (fun cdv A outer s H vs Q E hG hr h => ?_)
  · obtain ⟨x, y, d, e, rfl, _⟩ := h
    rfl
  · obtain ⟨x, y, d, e, rfl, hx, hy, sd, se, k⟩ := h
    refine ⟨_, pss_one (ps_ret (pe_cmpR op_eq (pe_callB (call_repr hG hr.units) (by rfl) T.repr (by decide +kernel) (pa_cons (pv 0) pa_nil)) (pe_callB (call_repr hG hr.units) (by rfl) T.repr (by decide +kernel) (pa_cons (pv 1) pa_nil)) (nomark _))), ?_⟩
    refine ⟨_, rfl, _, d, rfl, hx, sd, _, rfl, _, e, rfl, hy, se, rfl, ?_⟩
    have q : decide (V.str d.shown = V.str e.shown) = decide (d.shown = e.shown) := by
      by_cases z : d.shown = e.shown
      · rw [z, decide_eq_true rfl, decide_eq_true rfl]
      · rw [decide_eq_false z, decide_eq_false fun y => z (V.str.inj y)]
    show Q (.bl (decide (V.str d.shown = V.str e.shown))) H
    rw [q]
    exact k
end
end Lw

set_option maxRecDepth 100000
/-! The fields of the exception in hand, by its code. -/
namespace VG
open PySem PySem.Spec PyProof.Rows L2
theorem same_upd {H : Hp} {a : Addr} {o : HO} (h : H a = none) : Same H (upd H a o) := fun b u e => by rw [upd_ne (ne_of_none e h)]; exact e
/-- nm stands in l, as `in` tells it -/
def eqIn (l : List Str) (nm : Str) : Bool := (l.map PyData.str).any fun z => PyData.eqv z (.str nm)
/-- p is an own error with the code nm and the fields fs -/
structure Caught (K : PySem.W.Frag) (H : Hp) (p : Addr × Obj) (nm : Str) (fs : List (Str × V)) : Prop where
  ex : ∃ (C dd : Addr), p.2.cls = .ref C ∧ OwnX K C ∧ p.2.dict = some dd ∧ (∃ vs, p.2.data = .fields vs) ∧ H dd = some (.xd fs)
  code : fs.lookup ("code" : Str) = some (V.str nm)
  sh : SeqAt.shaped (.str nm) = true
theorem Caught.same {K : PySem.W.Frag} {H H' : Hp} {p : Addr × Obj} {nm : Str} {fs : List (Str × V)} (e : Same H H') (c : Caught K H p nm fs) : Caught K H' p nm fs := by
  obtain ⟨⟨C, dd, h1, h2, h3, h4, h5⟩, h6, h7⟩ := c
  exact ⟨⟨C, dd, h1, h2, h3, h4, e _ _ h5⟩, h6, h7⟩
theorem Caught.get {K : PySem.W.Frag} {H : Hp} {p : Addr × Obj} {nm f : Str} {fs : List (Str × V)} {v : V} {Q : VK} (c : Caught K H p nm fs) (l : fs.lookup f = some v) (q : Q v H) :
    ∃ (C dd : Addr) (fs : List (Str × V)) (v : V), p.2.cls = .ref C ∧ OwnX K C ∧ p.2.dict = some dd ∧ (∃ vs, p.2.data = .fields vs) ∧ H dd = some (.xd fs) ∧ fs.lookup f = some v ∧ Q v H := by
  obtain ⟨⟨C, dd, h1, h2, h3, h4, h5⟩, _, _⟩ := c
  exact ⟨C, dd, fs, v, h1, h2, h3, h4, h5, l, q⟩
theorem strs_all {K : PySem.W.Frag} {H : Hp} : ∀ l : List Str, DpAll K H (l.map V.str) (l.map PyData.str)
  | [] => .nil
  | x :: l => .cons (.str x) (strs_all l)
section
variable {X : Cx} {p : Addr × Obj} {x f : Str} {i j1 j2 j3 : Nat} {l : List Str} {es fes : List Expr} {p1 p2 p3 p4 p5 p6 p7 p8 p9 : Pos}
/-- the fields ns of the exception in hand, in slot i -/
def tFlds (K : PySem.W.Frag) (p : Addr × Obj) (i : Nat) (ns : List Str) : TA := fun σ H Q => σ[i]? = some (some (.ref p.1)) ∧ ∃ (nm : Str) (fs : List (Str × V)) (ys : List V), Caught K H p nm fs ∧ ns.map (fun f => fs.lookup f) = ys.map some ∧ Q ys H
theorem pa_flds0 : PA X [] (tFlds X.K p i []) := by
  refine ⟨fun pos pins s σ H Q I h => ?_⟩
  obtain ⟨_, nm, fs, ys, _, e, q⟩ := h
  have e2 : ys = [] := by
    cases ys with
    | nil => rfl
    | cons y ys => cases e
  subst e2
  exact pa_nil.run pos pins s σ H Q I q
theorem pa_flds {ns : List Str} (hp : p ∈ X.pn) (hv : PE X (.Name x p1) (tVar i)) (hf : f ∈ exFields) (ha : PA X es (tFlds X.K p i ns)) : PA X (.Attribute (.Name x p1) f p2 :: es) (tFlds X.K p i (f :: ns)) := by
  refine ⟨fun pos pins s σ H Q I h => ?_⟩
  obtain ⟨hs, nm, fs, ys, c, e, q⟩ := h
  match ys, e with
  | y :: ys, e =>
    have e1 := List.cons.inj e
    obtain ⟨C, dd, h1, h2, h3, h4, h5⟩ := c.ex
    refine (pa_cons (pe_xp hp hf hv) ha).run pos pins s σ H Q I ?_
    refine ⟨_, hs, rfl, C, dd, fs, _, h1, h2, h3, h4, h5, e1.1, ?_⟩
    exact ⟨hs, nm, fs, ys, c, e1.2, q⟩
theorem small_line {n : Nat} (h : n ≤ 1000) : n ≤ sizeLine := Nat.le_trans h (by decide)
/-- if a test of the code: return the fields ns -/
def tIfRet (K : PySem.W.Frag) (p : Addr × Obj) (i : Nat) (c : Str → Bool) (ns : List Str) : TS := fun D σ H => σ[i]? = some (some (.ref p.1)) ∧ ∃ (nm : Str) (fs : List (Str × V)), Caught K H p nm fs ∧
  (c nm = true → ∃ ys, ns.map (fun f => fs.lookup f) = ys.map some ∧ ∀ T H', Same H H' → SqT K H' T ys → D.rt (.ref T) H') ∧ (c nm = false → ∀ H', Same H H' → D.nx σ H')
theorem flds_end {K : PySem.W.Frag} {σ : L2.St} {H H1 : Hp} {ns : List Str} {nm : Str} {fs : List (Str × V)} {R : VK} (hl : ns.length ≤ 1000) (hs : σ[i]? = some (some (.ref p.1))) (sm : Same H H1) (c : Caught K H p nm fs)
    (h : ∃ ys, ns.map (fun f => fs.lookup f) = ys.map some ∧ ∀ T H', Same H H' → SqT K H' T ys → R (.ref T) H') : tTup (tFlds K p i ns) σ H1 R := by
  obtain ⟨ys, e, k⟩ := h
  have hz : ys.length = ns.length := by
    have z := congrArg List.length e
    rw [List.length_map, List.length_map] at z
    exact z.symm
  exact ⟨hs, nm, fs, ys, c.same sm, e, small_line (by omega), fun T hT => k T _ (sm.trans (same_upd hT)) (SqT.of upd_same)⟩
theorem ps_inRet {ns : List Str} (hp : p ∈ X.pn) (hu : X.A.units + 65 < cLine) (hl : l.length ≤ 1000) (hn : ns.length ≤ 1000) (sh : SeqAt.shaped (.tuple (l.map PyData.str)) = true) (hv : PE X (.Name x p1) (tVar i))
    (ha : PA X es (fun _ H Q => Q (l.map V.str) H)) (he : PA X fes (tFlds X.K p i ns)) :
    PS X (.If (.Compare (.Attribute (.Name x p1) "code" p3) [.In] [.Tuple es j1 p4] p5) [.Return (some (.Tuple fes j2 p7)) p8] [] p9) (tIfRet X.K p i (eqIn l) ns) := by
  refine ⟨fun pins s σ H D I h => (ps_if (pt_cmpR (op_inT hu) (pe_xp hp (by decide) hv) (pe_tup ha) rfl) (pss_one (ps_ret (pe_tup he))) pss_nil).run pins s σ H D I ?_⟩
  obtain ⟨hs, nm, fs, c, hy, hn⟩ := h
  have hz : (l.map V.str).length ≤ sizeLine := by rw [List.length_map]; exact small_line hl
  refine ⟨_, hs, rfl, c.get c.code ⟨hz, fun T hT => ?_⟩⟩
  have sm := same_upd (o := .tup (l.map V.str)) hT
  refine ⟨.str nm, l.map PyData.str, .str nm, .tup (SqT.of upd_same) (strs_all l), c.sh, sh, eqIn l nm, rfl, ?_⟩
  cases e : eqIn l nm with
  | true => exact iteT (flds_end (by assumption) hs sm c (hy e))
  | false => exact iteF (hn e _ sm)
theorem ps_eqRet {ns : List Str} {z : Str} (hp : p ∈ X.pn) (hn : ns.length ≤ 1000) (hv : PE X (.Name x p1) (tVar i)) (he : PA X fes (tFlds X.K p i ns)) :
    PS X (.If (.Compare (.Attribute (.Name x p1) "code" p3) [.Eq] [.Constant (.str z) j1 p4] p5) [.Return (some (.Tuple fes j2 p7)) p8] [] p9) (tIfRet X.K p i (fun nm => decide (nm = z)) ns) := by
  refine ⟨fun pins s σ H D I h => (ps_if (pt_cmpR op_eq (pe_xp hp (by decide) hv) pe_str rfl) (pss_one (ps_ret (pe_tup he))) pss_nil).run pins s σ H D I ?_⟩
  obtain ⟨hs, nm, fs, c, hy, hn⟩ := h
  obtain ⟨C, dd, h1, h2, h3, h4, h5⟩ := c.ex
  refine ⟨_, hs, rfl, C, dd, fs, _, h1, h2, h3, h4, h5, c.code, ?_⟩
  refine ⟨rfl, decide (nm = z), congrArg V.bl ?_, ?_⟩
  · by_cases y : nm = z
    · subst y
      rw [decide_eq_true rfl, decide_eq_true rfl]
    · rw [decide_eq_false y, decide_eq_false fun q => y (V.str.inj q)]
  cases e : decide (nm = z) with
  | true => exact iteT (flds_end (by assumption) hs (Same.refl H) c (hy e))
  | false => exact iteF (hn e _ (Same.refl H))
/-- return the fields ns if the code is z else () -/
def tEndRet (K : PySem.W.Frag) (p : Addr × Obj) (i : Nat) (z : Str) (ns : List Str) : TS := fun D σ H => σ[i]? = some (some (.ref p.1)) ∧ ∃ (nm : Str) (fs : List (Str × V)), Caught K H p nm fs ∧
  ∃ ys, (if decide (nm = z) = true then ns else []).map (fun f => fs.lookup f) = ys.map some ∧ ∀ T H', Same H H' → SqT K H' T ys → D.rt (.ref T) H'
theorem ps_endRet {ns : List Str} {z : Str} (hp : p ∈ X.pn) (hn : ns.length ≤ 1000) (hv : PE X (.Name x p1) (tVar i)) (he : PA X fes (tFlds X.K p i ns)) :
    PS X (.Return (some (.IfExp (.Compare (.Attribute (.Name x p1) "code" p3) [.Eq] [.Constant (.str z) j1 p4] p5) (.Tuple fes j2 p7) (.Tuple [] j3 p2) p6)) p8) (tEndRet X.K p i z ns) := by
  refine ⟨fun pins s σ H D I h => (ps_ret (pe_ifExp (pt_cmpR op_eq (pe_xp hp (by decide) hv) pe_str rfl) (pe_tup he) (pe_tup (pa_flds0 (p := p) (i := i))))).run pins s σ H D I ?_⟩
  obtain ⟨hs, nm, fs, c, h⟩ := h
  obtain ⟨C, dd, h1, h2, h3, h4, h5⟩ := c.ex
  refine ⟨_, hs, rfl, C, dd, fs, _, h1, h2, h3, h4, h5, c.code, ?_⟩
  refine ⟨rfl, decide (nm = z), congrArg V.bl ?_, ?_⟩
  · by_cases y : nm = z
    · subst y
      rw [decide_eq_true rfl, decide_eq_true rfl]
    · rw [decide_eq_false y, decide_eq_false fun q => y (V.str.inj q)]
  cases e : decide (nm = z) with
  | true =>
    rw [e, if_pos rfl] at h
    exact iteT (flds_end (by assumption) hs (Same.refl H) c h)
  | false =>
    rw [e, if_neg Bool.false_ne_true] at h
    exact iteF (flds_end (by decide) hs (Same.refl H) c h)
end
end VG

set_option maxRecDepth 100000
/-! ask(lambda: ..): ('', what it gives), or (code,) + the fields of the error that it raises. -/
namespace VG
open PySem PySem.Spec PyProof.Rows L2 LamX
open L2H (RoomH roomH_of)
/-- the fields of an error with the code nm, as the law tells them -/
def fieldsOf (nm : Str) : List Str :=
  if eqIn ["InvalidRatio", "InvalidNumber", "InvalidName", "InvalidLayer", "InvalidPlace", "InvalidPoint", "InvalidForm", "InvalidLimit"] nm = true then ["given"]
  else if eqIn ["InvalidRow", "InvalidFact", "InvalidCommand"] nm = true then ["at"]
  else if eqIn ["InvalidStep", "UnlikeEnds"] nm = true then ["path"]
  else if eqIn ["DuplicateName", "UnknownName"] nm = true then ["name"]
  else if eqIn ["InvalidText", "UnknownScript"] nm = true then ["word"]
  else if decide (nm = "InvalidTable") = true then ["layer"]
  else if decide (nm = "InvalidWay") = true then ["layer", "start", "goal"]
  else if decide (nm = "Full") = true then ["limit"]
  else if decide (nm = "InvalidPage") = true then ["line"]
  else if decide (nm = "TooMany") = true then ["subject", "most"] else []
/-- the fields of the error p: of its code's names, in a tuple -/
def spFields (K : PySem.W.Frag) : Addr × Obj → Sp := fun p vs H Q _ => vs = [.ref p.1] ∧ ∃ (nm : Str) (fs : List (Str × V)) (ys : List V), Caught K H p nm fs ∧ (fieldsOf nm).map (fun f => fs.lookup f) = ys.map some ∧ ∀ T H', Same H H' → SqT K H' T ys → Q (.ref T) H'
/-- an own error of class cls, its dict d -/
structure Err (K : PySem.W.Frag) (H : Hp) (cls : Value) (d : Option Addr) (nm : Str) (fs : List (Str × V)) : Prop where
  ex : ∃ (C dd : Addr), cls = .ref C ∧ OwnX K C ∧ d = some dd ∧ H dd = some (.xd fs)
  code : fs.lookup ("code" : Str) = some (V.str nm)
  sh : SeqAt.shaped (.str nm) = true
theorem Err.caught {K : PySem.W.Frag} {H : Hp} {cls : Value} {d : Option Addr} {nm : Str} {fs : List (Str × V)} {a : Addr} {oe : Obj} (e : Err K H cls d nm fs) (hz : Zc cls d oe) (hf : ∃ vs, oe.data = .fields vs) : Caught K H (a, oe) nm fs := by
  obtain ⟨⟨C, dd, h1, h2, h3, h4⟩, h5, h6⟩ := e
  exact ⟨⟨C, dd, hz.1.trans h1, h2, hz.2.trans h3, hf, h4⟩, h5, h6⟩
/-- what ask wishes of an error of the body, cs the classes that it catches -/
def askX (K : PySem.W.Frag) (cs : List Value) (Q : VK) : XK := fun cls d H => PySem.W.exmAny K cls cs = some true ∧ ∃ (nm : Str) (fs : List (Str × V)) (ys : List V), Err K H cls d nm fs ∧ (fieldsOf nm).map (fun f => fs.lookup f) = ys.map some ∧ ys.length ≤ 1000 ∧
  ∀ T H', Same H H' → SqT K H' T (.str nm :: ys) → Q (.ref T) H'
def askQ (Q : VK) : VK := fun x H1 => [V.str "", x].length ≤ sizeLine ∧ ∀ T, H1 T = none → Q (.ref T) (upd H1 T (.tup [.str "", x]))
def TAsk (K : PySem.W.Frag) (cs : List Value) : (XK → Hp → VK → Prop) → Hp → VK → Prop := fun tl H Q => tl (askX K cs Q) H (askQ Q)
section
variable {X : Cx}
/-- the suite: return (e.code,) + fields(e) -/
def tSuite (K : PySem.W.Frag) (i : Nat) : Addr → Value → Option Addr → TS := fun a cls d D σ H => σ[i]? = some (some (.ref a)) ∧ ∃ (nm : Str) (fs : List (Str × V)) (ys : List V), Err K H cls d nm fs ∧ (fieldsOf nm).map (fun f => fs.lookup f) = ys.map some ∧ ys.length ≤ 1000 ∧
  ∀ T H', Same H H' → SqT K H' T (.str nm :: ys) → D.rt (.ref T) H'
theorem ps_suite {a : Addr} {oe : Obj} {cls : Value} {d : Option Addr} {pn : List (Addr × Obj)} {i k : Nat} {e x : Str} {f : Addr} {fd : FuncData} {ps : List Str} {p1 p2 p3 p4 p5 p6 p7 p8 : Pos} {j : Nat}
    (F : FnE X.prog X.w X.K X.mg X.base CX0 k f fd ps (spFields X.K)) (hr : RoomH k X.A) (hg : (X.suite a ((a, oe) :: pn)).env.scope.names.lookup x = some .globalImplicit) (hm : X.mg x = some (.ref f)) (hk : PySem.W.keepIn X.K (.ref f) = true) (hb : L2.Binds X.K fd ps [])
    (hz : Zc cls d oe) (hf : ∃ vs, oe.data = .fields vs) (hv : ∀ p, PE (X.suite a ((a, oe) :: pn)) (.Name e p) (tVar i)) (n1 : (x == ("__debug__" : Str)) = false) :
    PS (X.suite a ((a, oe) :: pn)) (.Return (some (.BinOp (.Tuple [.Attribute (.Name e p1) "code" p2] j p3) .Add (.Call (.Name x p4) [.Name e p5] [] p6) p7)) p8) (tSuite X.K i a cls d) := by
  have hp : (a, oe) ∈ (X.suite a ((a, oe) :: pn)).pn := List.mem_cons_self
  refine ⟨fun pins s σ H D I h => (ps_ret (pe_op op_catT (pe_tup (pa_cons (pe_xp hp (by decide) (hv p1)) pa_nil)) (pe_callE (E := fun _ _ _ => False) (X := X.suite a ((a, oe) :: pn)) F ⟨hr.dp, hr.un⟩ hp hg hm hk hb (fun _ _ _ _ _ _ _ h => h.elim) (pa_cons (hv p5) pa_nil) n1))).run pins s σ H D I ?_⟩
  obtain ⟨hs, nm, fs, ys, er, el, hy, q⟩ := h
  have c := er.caught (a := a) hz hf
  obtain ⟨C, dd, h1, h2, h3, h4, h5⟩ := c.ex
  refine ⟨_, hs, rfl, C, dd, fs, _, h1, h2, h3, h4, h5, c.code, small_line (by show 1 ≤ 1000; decide), fun T hT => ?_⟩
  have sm := same_upd (o := .tup [.str nm]) hT
  refine ⟨_, hs, rfl, nm, fs, ys, c.same sm, el, fun T2 H2 sm2 ht => ?_⟩
  have st : SqT X.K H2 T [.str nm] := Same.tup sm2 (SqT.of upd_same)
  refine ⟨T, T2, [.str nm], ys, rfl, rfl, st, ht, List.cons_ne_nil _ _, Nat.le_trans (Nat.add_le_add_left hy 1) (by decide), fun e => ?_, fun _ T3 hT3 => ?_⟩
  · subst e
    exact q T H2 (sm.trans sm2) st
  · exact q T3 _ ((sm.trans sm2).trans (same_upd hT3)) (SqT.of upd_same)
theorem exm_imp {K : PySem.W.Frag} {cls : Value} {cs : List Value} {Q : VK} {d : Option Addr} {H : Hp} (h : askX K cs Q cls d H) : PySem.W.exmAny K cls cs = some true := h.1
theorem ask_gives {Ng : List Str} {x a e y q xA xB xC : Str} {sg : Scope} {g f : Addr} {fd : FuncData} {ps : List Str} {cA cB cC cdg : Value} {j1 j2 j3 j4 k : Nat} {p1 p2 p3 p4 p5 p6 p7 p8 p9 p10 p11 p12 p13 p14 p15 p16 p17 p18 p19 : Pos}
    (F : FnE X.prog X.w X.K X.mg X.base CX0 k f fd ps (spFields X.K)) (hr : Room (k + 1) X.A) (nd : Ng.Nodup) (h1 : Ng[1]? = some e) (hl : sg.names.lookup e = some .local)
    (gA : sg.names.lookup xA = some .globalImplicit) (gB : sg.names.lookup xB = some .globalImplicit) (gC : sg.names.lookup xC = some .globalImplicit) (gy : sg.names.lookup y = some .globalImplicit)
    (mA : X.mg xA = some cA) (mB : X.mg xB = some cB) (mC : X.mg xC = some cC) (my : X.mg y = some (.ref f)) (hk : PySem.W.keepIn X.K (.ref f) = true) (hb : L2.Binds X.K fd ps [])
    (dA : (xA == ("__debug__" : Str)) = false) (dB : (xB == ("__debug__" : Str)) = false) (dC : (xC == ("__debug__" : Str)) = false) (dy : (y == ("__debug__" : Str)) = false) (de : (e == ("__debug__" : Str)) = false) (dc : (e == ("__classdict__" : Str)) = false)
    (h0 : ∀ f : Addr, (L2.start Ng [V.ref f])[0]? = some (some (V.ref f))) (h2 : 1 < Ng.length) :
    GivesTo X Ng x sg g cdg [.Try [.Return (some (.Tuple [.Constant (.str "") j1 p1, .Call (.Name a p2) [] [] p3] j2 p4)) p5]
      [.ExceptHandler (some (.Tuple [.Name xA p6, .Name xB p7, .Name xC p8] j3 p9)) (some e) [.Return (some (.BinOp (.Tuple [.Attribute (.Name e p10) "code" p11] j4 p12) .Add (.Call (.Name y p13) [.Name e p14] [] p15) p16)) p17] p18] [] [] p19] a q (TAsk X.K [cA, cB, cC]) := by
  intro f' c' s H Q tl act hc h
  have room : RoomH k (cxOf C8.CX0 X.prog X.w X.K X.mg X.base Ng x sg g cdg X.A X.stack s H C8.E0).nox.A := roomH_of (hr.deeper _)
  refine ⟨_, pss_one (ps_try_as3 (X := (cxOf C8.CX0 X.prog X.w X.K X.mg X.base Ng x sg g cdg X.A X.stack s H C8.E0).nox) (c1 := cA) (c2 := cB) (c3 := cC) (i := 1)
      (tb := fun W D σ H => ∃ Ech : XK, (∀ cls d σ' H', Ech cls d H' → W cls d σ' H') ∧ σ[0]? = some (some (.ref f')) ∧ H c' = some (CodeO c' q) ∧ tl Ech H (askQ D.rt))
      (ts := tSuite X.K 1) rfl rfl nd h1 hl ⟨gA, dA, .inl mA⟩ ⟨gB, dB, .inl mB⟩ ⟨gC, dC, .inl mC⟩ (fun W pn xe tk _ => ?_) (fun b oe cls d pn hz hf => ?_)), ?_⟩
  · refine ⟨fun pins s' σ H' D I h' => ?_⟩
    obtain ⟨Ech, hW, e1, e2, e3⟩ := h'
    have hp := act W pn xe Ech p2 p3 tk hW
    have hq := pss_one (st := .Return (some (.Tuple [.Constant (.str "") j1 p1, .Call (.Name a p2) [] [] p3] j2 p4)) p5) (ps_ret (pe_tup (pa_cons pe_str (pa_cons hp pa_nil))))
    exact hq.run pins s' σ H' D I ⟨e1, e2, e3⟩
  · refine pss_one (ps_suite F room ?_ my hk hb hz hf (fun p => pe_var h1 (.inl hl) de dc) dy)
    exact gy
  · refine ⟨askX X.K [cA, cB, cC] Q, fun cls d σ' H' z => ?_, h0 f', hc, h⟩
    obtain ⟨z1, nm, fs, ys, z2, z3, z4, z5⟩ := z
    refine ⟨z1, fun b hb hn => ⟨?_, nm, fs, ys, z2, z3, z4, z5⟩⟩
    have hn : σ'.length = Ng.length := hn
    rw [List.getElem?_set_self (by omega)]
end
end VG

set_option maxRecDepth 100000
/-! A lambda with one parameter that bears a default, handed to a def that calls it without arguments. -/
namespace VG
open PySem PySem.Spec PyProof.Rows L2 LamX
/-! ### its function object -/
abbrev dlFn (qual : Str) (params : Arguments) (body : Expr) (scope : Scope) (cl : List (Str × Addr)) (pm cdv ctv dv : Value) : FuncData := { PySem.W.kla_fn "<lambda>" qual params body scope cl pm cdv ctv with defaults := dv }
abbrev dlObj (qual : Str) (params : Arguments) (body : Expr) (scope : Scope) (cl : List (Str × Addr)) (pm cdv ctv dv : Value) : Obj := { cls := .type "function", data := .func (dlFn qual params body scope cl pm cdv ctv dv) }
abbrev oneTup (u : Value) : Obj := { cls := .type "tuple", data := .seq [u].toArray }
section
variable {M : Model} {A : Around} {E : Value → Shared → Prop} {s : Shared} {Q : Value → Shared → Prop}
/-- the closure's tuple, if there is one -/
theorem clo_tup {clos : List (Str × Addr)} {k : Value → Sem Value} (h : ∀ (ctv : Value) (h1 : Heap), (∀ b o, s.heap.get? b = some o → h1.get? b = some o) → s.heap.objs.size ≤ h1.objs.size → wpAny M A (k ctv) Q E { s with heap := h1 }) :
    wpAny M A (do
      let t ← if clos.isEmpty then pure .none else newTextTuple ((clos.mergeSort fun a b => a.1.cps.toList ≤ b.1.cps.toList).map (.ref ·.2))
      k t) Q E s := by
  match clos with
  | [] => exact wpAny_bind (wpAny_pure (h .none s.heap (fun _ _ e => e) (Nat.le_refl _)))
  | q :: r =>
    refine wpAny_bind (wpAny_newTextTuple (h _ _ (fun b o e => Heap.get?_push_of_some _ e) ?_))
    rw [Heap.size_push]
    omega
variable {qual : Str} {params : Arguments} {body : Expr} {scope : Scope} {env : Env} {c P : Addr} {ps : Array Value} {pos : Pos} {line : Nat} {mg : Str → Option Value} {clos : List (Str × Addr)} {dv : Value}
/-- it is made: its code object stands in the table -/
theorem dl_hit {cv : Value} (hcl : closureFor scope env = pure clos) (eg : env.globals = mainGlobals) (gm : s.heap.Ns mainGlobals mg) (ec : env.code = .ref c) (C : PySem.W.CodeHd s.heap c P) (tab : s.heap.get? P = some { cls := .none, data := .fields ps }) (ok : TriplesOk ps.toList)
    (hit : codeAmong pos ps.toList = some cv) (bl : s.heap.BuiltinsAt mg P)
    (h : ∀ (ctv : Value) (h1 : Heap) (tk : Tok), (∀ b o, s.heap.get? b = some o → h1.get? b = some o) → s.heap.objs.size ≤ h1.objs.size →
      Q (.ref h1.objs.size) { s with heap := h1.push (dlObj qual params body scope clos ((mg "__name__").getD .none) cv ctv dv), toks := tk }) :
    wpAny M A (makeTail "<lambda>" qual params (.expr body) scope env dv .none none pos line) Q E s := by
  obtain ⟨bm, ob, y1, y2, _, _, y5, y6, y7, y8⟩ := bl
  unfold makeTail
  rw [hcl, eg]
  refine wpAny_bind (wpAny_pure (clo_tup fun ctv h1 kp sz => ?_))
  refine wpAny_bind (wpAny_functionCode_hit ec ((C.keeps kp).code (kp _ _ tab) ok) hit ?_)
  refine wpAny_bind (wpAny_builtinsFor (gm.keeps kp) y1 y2 (kp _ _ y5) y6 y7 y8 ?_)
  exact wpAny_bind (wpAny_nsGet (gm.keeps kp) (wpAny_bind (wpAny_pure (wpAny_newObj_type (h ctv h1 s.toks kp sz) (by size_fits)))))
/-- it is made: its code object is new -/
theorem dl_new (hcl : closureFor scope env = pure clos) (eg : env.globals = mainGlobals) (gm : s.heap.Ns mainGlobals mg) (ec : env.code = .ref c) (C : PySem.W.CodeHd s.heap c P) (tab : s.heap.get? P = some { cls := .none, data := .fields ps }) (ok : TriplesOk ps.toList)
    (miss : codeAmong pos ps.toList = none) (gP : mainGlobals ≠ P) (bl : s.heap.BuiltinsAt mg P)
    (h : ∀ (c' : Addr) (ctv : Value) (h1 : Heap) (tk : Tok), Heap.ExtBut P s.heap h1 → s.heap.objs.size ≤ c' → c' < h1.objs.size → h1.CodeRec (.ref c') qual → h1.get? P = some { cls := .none, data := .fields (ps ++ #[rawInt pos.line, rawInt pos.col, .ref c']) } →
      Q (.ref h1.objs.size) { s with heap := h1.push (dlObj qual params body scope clos ((mg "__name__").getD .none) (.ref c') ctv dv), toks := tk }) :
    wpAny M A (makeTail "<lambda>" qual params (.expr body) scope env dv .none none pos line) Q E s := by
  obtain ⟨bm, ob, y1, y2, _, y4, y5, y6, y7, y8⟩ := bl
  unfold makeTail
  rw [hcl, eg]
  refine wpAny_bind (wpAny_pure (clo_tup fun ctv h1 kp sz => ?_))
  refine wpAny_bind (wpAny_functionCodeX ec ((C.keeps kp).code (kp _ _ tab) ok) ((C.keeps kp).tab (kp _ _ tab)) miss fun c' h2 tk ext ge lt _ rec there _ => ?_)
  have gm2 := (gm.keeps kp).extBut ext gP
  refine wpAny_bind (wpAny_builtinsFor gm2 y1 y2 (ext _ _ y4 (kp _ _ y5)) y6 y7 y8 ?_)
  refine wpAny_bind (wpAny_nsGet gm2 (wpAny_bind (wpAny_pure (wpAny_newObj_type (h c' ctv h2 tk (fun b o n e => ext b o n (kp b o e)) (Nat.le_trans sz ge) lt rec there.2) (by size_fits)))))
end
/-! ### made, in the layer -/
section
variable {X : Cx} {pins : List (Addr × Obj)} {σ : L2.St} {H : Hp} {s : Shared}
/-- an object that nothing tracks and no frame is -/
structure Loose (X : Cx) (H : Hp) (s : Shared) (a : Addr) (o : Obj) : Prop where
  get : s.heap.get? a = some o
  free : H a = none
  nofr : a ∉ frs X.stack
theorem new_nofr (I : Inv X pins σ H s) {a : Addr} (h : s.heap.objs.size ≤ a) : a ∉ frs X.stack := fun z => by
  rcases List.mem_cons.mp (I.stkSub _ z) with e | e
  · have h1 := I.lt
    rw [← e] at h1
    exact Nat.lt_irrefl _ (Nat.lt_of_lt_of_le h1 h)
  · exact I.nofs h e
/-- ps's tables and all else, a new code object in one of them -/
theorem tabs_new {T : List (Addr × Str)} {P c' : Addr} {q : Str} {ps : Array Value} {p0 : Pos} (hT : Tabs T H) (hP : H P = some (.tbl ps)) (ok : TriplesOk ps.toList) (at' : ∀ (pos : Pos) (cv : Value), codeAmong pos ps.toList = some cv → ∃ c, cv = .ref c ∧ H c = some (CodeO c q))
    (nC : H c' = none) (hu : ∀ p ∈ T, p.1 = P → p.2 = q) :
    ExtN H (upd (upd H P (.tbl (ps ++ #[rawInt p0.line, rawInt p0.col, .ref c']))) c' (CodeO c' q)) ∧ Tabs T (upd (upd H P (.tbl (ps ++ #[rawInt p0.line, rawInt p0.col, .ref c']))) c' (CodeO c' q)) := by
  have e1 : ExtN H (upd (upd H P (.tbl (ps ++ #[rawInt p0.line, rawInt p0.col, .ref c']))) c' (CodeO c' q)) := fun b o e n => by
    have nP : b ≠ P := fun z => by
      rw [z, hP] at e
      exact n ps (Option.some.inj e).symm
    rw [upd_ne (ne_of_none e nC), upd_ne nP]
    exact e
  have el : (ps ++ #[rawInt p0.line, rawInt p0.col, .ref c']).toList = ps.toList ++ [rawInt p0.line, rawInt p0.col, .ref c'] := by simp
  refine ⟨e1, fun p hp => ?_⟩
  by_cases hb : p.1 = P
  · rw [hu p hp hb, hb]
    refine ⟨_, by rw [upd_ne (ne_of_none hP nC), upd_same], by rw [el]; exact PySem.TriplesOk_snoc _ _ _ _ ok, fun p' cv hcv => ?_⟩
    rw [el] at hcv
    rcases among_app _ ok hcv with z | z
    · obtain ⟨c0, z1, z2⟩ := at' p' cv z
      exact ⟨c0, z1, e1 _ _ z2 codeO_ne⟩
    · exact ⟨c', z, upd_same⟩
  · obtain ⟨qs, a1, a2, a3⟩ := hT p hp
    refine ⟨qs, by rw [upd_ne (ne_of_none a1 nC), upd_ne hb]; exact a1, a2, fun p' cv hcv => ?_⟩
    obtain ⟨c0, z1, z2⟩ := a3 p' cv hcv
    exact ⟨c0, z1, e1 _ _ z2 codeO_ne⟩
/-- lambda a=z: body, evaluated -/
theorem dl_make {T : List (Addr × Str)} {c P : Addr} {params : Arguments} {body : Expr} {scope : Scope} {pos p0 : Pos} {z : Int} {j : Nat} {E : Value → Shared → Prop} {Q : Value → Shared → Prop} (I : Inv X pins σ H s) (TB : TabB X.base X.mg c P) (hcode : X.env.code = .ref c)
    (hm : (P, X.env.qual ++ "<lambda>") ∈ T) (hu : ∀ p ∈ T, p.1 = P → p.2 = X.env.qual ++ "<lambda>") (hT : Tabs T H) (hdef : defaultsOf params X.env = ([eval (.Constant (.int z) j p0) X.env], [])) (hkw : params.kwonlyargs = [])
    (hfree : ∀ y ∈ scope.names, y.2 = .free → ∃ c, X.env.cells.lookup y.1 = some c) (hE : ∀ e s', X.xe e s' → E e s')
    (h : ∀ (f D c' : Addr) (pm ctv u : Value) (H1 : Hp) (s' : Shared), Inv X pins σ H1 s' → ExtN H H1 → Tabs T H1 → RelV (.int z) u → Loose X H1 s' D (oneTup u) →
      Loose X H1 s' f (dlObj (X.env.qual ++ "<lambda>") params body scope (cloFrom X.env.cells scope.names []) pm (.ref c') ctv (.ref D)) → H1 c' = some (CodeO c' (X.env.qual ++ "<lambda>")) → Q (.ref f) s') :
    wpAny (model X.prog X.w) X.A (eval (.Lambda params body scope pos) X.env) Q E s := by
  rw [arm_eval_Lambda, hdef]
  show wpAny (model X.prog X.w) X.A (do let dv ← evalAll [eval (.Constant (.int z) j p0) X.env]; let kdv ← holding dv (evalAllOpt []); makeFunction "<lambda>" (X.env.qual ++ "<lambda>") params (.expr body) scope X.env dv kdv [] pos pos.line) Q E s
  refine wpAny_bind ?_
  show wpAny (model X.prog X.w) X.A (do let v ← eval (.Constant (.int z) j p0) X.env; return v :: (← holding [v] (evalAll []))) _ E s
  refine wpAny_bind (wpAny_mono ((pe_int (X := X)).run pins s σ H (fun v H1 => v = .int z ∧ H1 = H) I ⟨rfl, rfl⟩) (fun u s1 hh => ?_) hE)
  obtain ⟨v, H1, I1, rv, ev, eH⟩ := hh
  subst ev
  rw [eH] at I1
  refine wpAny_bind (wpAny_holding (wpAny_pure (wpAny_pure ?_)))
  refine wpAny_bind (wpAny_holding (wpAny_pure ?_))
  rw [makeFunction_eq, hkw]
  simp only [List.zip_nil_left, List.filterMap_nil, List.isEmpty_nil, List.isEmpty_cons, if_true, Bool.false_eq_true, if_false, pure_bind]
  refine wpAny_bind (wpAny_newTextTuple ?_)
  have D0 : s1.heap.objs.size ≤ s1.heap.objs.size := Nat.le_refl _
  have I2 : Inv X pins σ H { s1 with heap := s1.heap.push (oneTup u), toks := s1.toks } := I1.kept fun b o e => Heap.get?_push_of_some _ e
  obtain ⟨ps, hP, ok, at'⟩ := hT _ hm
  have gP : (s1.heap.push (oneTup u)).get? P = some { cls := .none, data := .fields ps } := I2.hok P _ hP
  have bl : (s1.heap.push (oneTup u)).BuiltinsAt X.mg P := TB.bm.keeps I2.bk
  have dGet : (s1.heap.push (oneTup u)).get? s1.heap.objs.size = some (oneTup u) := Heap.get?_push_size _ rfl
  have dFree : H s1.heap.objs.size = none := I1.hok.fresh (Nat.le_refl _)
  have dNofr : s1.heap.objs.size ∉ frs X.stack := new_nofr I1 (Nat.le_refl _)
  have nDP : s1.heap.objs.size ≠ P := fun z => by
    rw [z, hP] at dFree
    cases dFree
  have sz1 : (s1.heap.push (oneTup u)).objs.size = s1.heap.objs.size + 1 := Heap.size_push _ _
  cases e : codeAmong pos ps.toList with
  | some cv =>
    obtain ⟨c', rfl, hco⟩ := at' pos cv e
    refine dl_hit (mg := X.mg) (c := c) (P := P) (ps := ps) (closure_ok hfree) I2.ok.glob (I2.mod.glob.keeps I2.bk) hcode (TB.code.keeps I2.bk) gP ok e bl fun ctv h1 tk kp sz => ?_
    have sz : (s1.heap.push (oneTup u)).objs.size ≤ h1.objs.size := sz
    have kp : ∀ b o, (s1.heap.push (oneTup u)).get? b = some o → h1.get? b = some o := kp
    have I3 : Inv X pins σ H { s1 with heap := h1.push (dlObj (X.env.qual ++ "<lambda>") params body scope (cloFrom X.env.cells scope.names []) ((X.mg "__name__").getD .none) (.ref c') ctv (.ref s1.heap.objs.size)), toks := tk } := I2.kept fun b o q => Heap.get?_push_of_some _ (kp b o q)
    exact h h1.objs.size s1.heap.objs.size c' _ ctv u H _ I3 (ExtN.refl H) hT rv ⟨Heap.get?_push_of_some _ (kp _ _ dGet), dFree, dNofr⟩ ⟨Heap.get?_push_size _ rfl, I1.hok.fresh (by omega), new_nofr I1 (by omega)⟩ hco
  | none =>
    refine dl_new (mg := X.mg) (c := c) (P := P) (ps := ps) (closure_ok hfree) I2.ok.glob (I2.mod.glob.keeps I2.bk) hcode (TB.code.keeps I2.bk) gP ok e TB.gP bl fun c' ctv h1 tk ext ge lt rec tab => ?_
    obtain ⟨c2, oc, vs, t, e2, hoc, hd, hv⟩ := rec
    cases e2
    have ge : (s1.heap.push (oneTup u)).objs.size ≤ c' := ge
    have ext : ∀ b o, b ≠ P → (s1.heap.push (oneTup u)).get? b = some o → h1.get? b = some o := ext
    have nC : H c' = none := I1.hok.fresh (by omega)
    have I3 := inv_table (t' := tk) (more := #[rawInt pos.line, rawInt pos.col, .ref c']) (h' := h1.push (dlObj (X.env.qual ++ "<lambda>") params body scope (cloFrom X.env.cells scope.names []) ((X.mg "__name__").getD .none) (.ref c') ctv (.ref s1.heap.objs.size))) I2 hP
      (fun b o hb q => Heap.get?_push_of_some _ (ext b o hb q)) (Heap.get?_push_of_some _ tab) ge ⟨oc, vs, t, Heap.get?_push_of_some _ hoc, hd, hv⟩
    obtain ⟨x1, x2⟩ := tabs_new (p0 := pos) (c' := c') hT hP ok at' nC hu
    have off : ∀ b, s1.heap.objs.size ≤ b → b ≠ c' → b ≠ P → upd (upd H P (.tbl (ps ++ #[rawInt pos.line, rawInt pos.col, .ref c']))) c' (CodeO c' (X.env.qual ++ "<lambda>")) b = none := fun b hb n1 n2 => by
      rw [upd_ne n1, upd_ne n2]
      exact I1.hok.fresh hb
    have hPlt : @LT.lt Nat _ P s1.heap.objs.size := I1.hok.lt hP
    have lt : @LT.lt Nat _ c' h1.objs.size := lt
    have ge : @LE.le Nat _ (s1.heap.push (oneTup u)).objs.size c' := ge
    have n1 : @Ne Nat s1.heap.objs.size c' := by omega
    have n2 : @LE.le Nat _ s1.heap.objs.size h1.objs.size := by omega
    have n3 : @Ne Nat h1.objs.size c' := by omega
    have n4 : @Ne Nat h1.objs.size P := by omega
    exact h h1.objs.size s1.heap.objs.size c' _ ctv u _ _ I3 x1 x2 rv ⟨Heap.get?_push_of_some _ (ext _ _ nDP dGet), off _ (Nat.le_refl _) n1 nDP, dNofr⟩ ⟨Heap.get?_push_size _ rfl, off _ n2 n3 n4, new_nofr I1 n2⟩ upd_same
end
/-! ### its names, its call -/
/-- one name of its own, a, that the maker doesn't use; captured ones and globals -/
structure LamD (sc scope : Scope) (a : Str) (N : List Str) : Prop where
  kind : scope.kind = .function
  co : scope.isCoroutine = false
  gen : scope.isGenerator = false
  noc : ∀ y ∈ scope.names, y.2 ≠ .cell
  own : ∀ y ∈ scope.names, y.2 = .local → y.1 = a
  par : scope.names.lookup a = some .local
  out : a ∉ N
  free : ∀ y ∈ scope.names, y.2 = .free → sc.names.lookup y.1 = some .cell ∨ sc.names.lookup y.1 = some .free
def lamDB (sc scope : Scope) (a : Str) (N : List Str) : Bool :=
  decide (scope.kind = .function) && (!scope.isCoroutine && (!scope.isGenerator && (decide (scope.names.lookup a = some .local) && (!N.contains a &&
    scope.names.all fun y => !decide (y.2 = .cell) && ((!decide (y.2 = .local) || decide (y.1 = a)) && (!decide (y.2 = .free) || (decide (sc.names.lookup y.1 = some .cell) || decide (sc.names.lookup y.1 = some .free))))))))
theorem lamD_by {sc scope : Scope} {a : Str} {N : List Str} (h : lamDB sc scope a N = true) : LamD sc scope a N := by
  unfold lamDB at h
  simp only [Bool.and_eq_true, Bool.or_eq_true, Bool.not_eq_true', decide_eq_true_eq, decide_eq_false_iff_not, List.all_eq_true] at h
  obtain ⟨h1, h2, h3, h4, h5, h6⟩ := h
  refine ⟨h1, h2, h3, fun y hy => (h6 y hy).1, fun y hy e => (h6 y hy).2.1.resolve_left fun z => z e, h4, fun z => ?_, fun y hy e => (h6 y hy).2.2.resolve_left fun z => z e⟩
  rw [List.contains_iff_mem.mpr z] at h5
  cases h5
theorem LamD.has {X : Cx} {scope : Scope} {a : Str} {N : List Str} (L : LamD X.env.scope scope a N) (ok : X.Ok) : ∀ y ∈ scope.names, y.2 = .free → ∃ c, X.env.cells.lookup y.1 = some c :=
  fun y hy e => ok.has _ ((L.free y hy e).elim (fun k => .inl k) fun k => .inr k)
section
variable {X : Cx} {pins : List (Addr × Obj)} {σ : L2.St} {H HZ : Hp} {s s1 : Shared}
theorem dl_start {A : Around} {outer : List Env} {E : XK} {scope : Scope} {f c' : Addr} {a : Str} {u : Value} {h1 : Heap} {tk : Nat} (I : Inv X pins σ H s) (L : LamD X.env.scope scope a X.N) (e0 : Env0 X.prog X.w X.K X.mg X.base A outer s1 HZ) (hd : A.handled = none)
    (un : Un (frs X.stack) [] H HZ s.heap s1.heap) (hns : h1.Ns s1.heap.objs.size fun y => ([(a, u)] : List (Str × Value)).reverse.lookup y) (kp : ∀ b o, s1.heap.get? b = some o → h1.get? b = some o) :
    Inv (lamCx X A outer s1 HZ E scope f c') [] σ HZ { s1 with heap := h1, toks := tk } := by
  have caught : ∀ {y c}, (cloFrom X.env.cells scope.names []).lookup y = some c → X.env.cells.lookup y = some c := fun {y c} e => by
    rcases cloFrom_mem (PySem.mem_of_lookup e) with hm | ⟨h1, h2⟩
    · cases hm
    · obtain ⟨c1, hc⟩ := L.has I.ok _ h1 rfl
      have hc : X.env.cells.lookup y = some c1 := hc
      rw [hc] at h2
      rw [show c = c1 from h2]
      exact hc
  have looks : ∀ {y}, scope.names.lookup y = some .free → ∃ c, (cloFrom X.env.cells scope.names []).lookup y = some c := fun {y} hl => mem_lookup (cloFrom_has (cells := X.env.cells) (acc := []) (PySem.mem_of_lookup hl))
  have stays : ∀ {c : Addr} {v : Option Value}, H c = none → s.heap.IsCell c v → h1.IsCell c v := fun {c v} n ⟨o, ho, hd⟩ => by
    obtain ⟨sl, q⟩ := un.any ho n (by simp)
    exact ⟨_, kp _ _ q, hd⟩
  have noX : ∀ b : Addr, b ∉ (lamCx X A outer s1 HZ E scope f c').ex := fun b z => absurd (show b ∈ ([] : List Addr) from z) (by simp)
  have okX : (lamCx X A outer s1 HZ E scope f c').Ok := by
    refine ⟨e0.mod, L.kind, rfl, rfl, Nat.le_refl _, fun y z c h1 h2 => I.ok.inj y z c (caught h1) (caught h2), fun y hy => ?_, fun _ _ z _ => Bool.noConfusion (show false = true from z), fun _ => hd, Around.frames_deeper e0.frames, .inr ⟨rfl, rfl⟩, fun b z => absurd z (noX b), e0.bs, e0.bsz, fun b _ _ => noX b,
      fun b z => absurd z (noX b), e0.funs, e0.frf⟩
    have hy : scope.names.lookup y = some .cell ∨ scope.names.lookup y = some .free := hy
    exact hy.elim (fun hy => absurd rfl (L.noc _ (PySem.mem_of_lookup hy))) looks
  refine ⟨okX, rfl, e0.bare, Un.kept kp, ⟨_, hns, fun i y v g1 g2 g3 => ?_⟩, fun y c e => ?_, e0.hok.fresh (Nat.le_refl _), fun y c e => ?_, fun q hq => absurd (show q ∈ ([] : List (Addr × Obj)) ++ [] from hq) (by simp), e0.hok.kept kp, I.len⟩
  · have g3 : Vis scope y := g3
    rcases g3 with k | k | k
    · have e := L.own _ (PySem.mem_of_lookup k) rfl
      have e : y = a := e
      exact absurd (List.mem_of_getElem? g1) (by rw [e]; exact L.out)
    · exact absurd rfl (L.noc _ (PySem.mem_of_lookup k))
    · obtain ⟨m, hn, hl⟩ := I.loc
      have fr := L.free _ (PySem.mem_of_lookup k) rfl
      obtain ⟨w', r, q⟩ := hl i y v g1 g2 (fr.elim (fun k => .inr (.inl k)) fun k => .inr (.inr k))
      obtain ⟨c2, h2⟩ := looks k
      have c1 := caught h2
      refine ⟨w', r, .inr ⟨.inr k, c2, h2, ?_⟩⟩
      rcases q with ⟨kl, _⟩ | ⟨_, c3, e', z⟩
      · have kl : X.env.scope.names.lookup y = some .local := kl
        rcases fr with k2 | k2 <;> rw [show X.env.scope.names.lookup y = _ from k2] at kl <;> cases kl
      · rw [c1] at e'
        cases e'
        exact stays (I.freeC y _ c1) z
  · obtain ⟨w', z⟩ := I.cell y c (caught e)
    exact ⟨w', stays (I.freeC y c (caught e)) z⟩
  · obtain ⟨v, o, ho, hd⟩ := I.cell y c (caught e)
    exact un.free c o ho (I.freeC y c (caught e)) (by simp)
/-- it is called, in the def that got it -/
theorem dl_act {CXg : CXT} {Eg : XK} {Ng : List Str} {qg x : Str} {sg : Scope} {g f D c' : Addr} {cdg pm ctv u : Value} {params : Arguments} {body : Expr} {scope : Scope} {k i : Nat} {a : Str} {pn : List (Addr × Obj)} {xe : Value → Shared → Prop} {W : WX} {E : XK} {tb : TE} {p1 p2 : Pos}
    (I : Inv X pins σ H s) (L : LamD X.env.scope scope a X.N) (hf : Loose X H s f (dlObj (X.env.qual ++ "<lambda>") params body scope (cloFrom X.env.cells scope.names []) pm (.ref c') ctv (.ref D))) (hD : Loose X H s D (oneTup u))
    (hb : ∀ s2 : Shared, s2.heap.get? D = some (oneTup u) → BindsTo s2 (dlFn (X.env.qual ++ "<lambda>") params body scope (cloFrom X.env.cells scope.names []) pm (.ref c') ctv (.ref D)) ⟨[], []⟩ [(a, u)])
    (tk : Takes ((cxOf CXg X.prog X.w X.K X.mg X.base Ng qg sg g cdg X.A X.stack s H Eg).tr pn xe) W) (hW : ∀ cls d σ' H', E cls d H' → W cls d σ' H') (hr : Room (k + 1) (X.A.deeper (envOfC qg sg s.heap.objs.size g cdg)))
    (bodyOk : ∀ (A : Around) (outer : List Env) (s : Shared) (H : Hp), Room k (A.deeper (lamEnv X scope s.heap.objs.size f c')) → PE (lamCx X A outer s H E scope f c') body tb)
    (hN : Ng[i]? = some x) (hv : Vis sg x) (n1 : (x == ("__debug__" : Str)) = false := by decide) (n2 : (x == ("__classdict__" : Str)) = false := by decide) :
    PE ((cxOf CXg X.prog X.w X.K X.mg X.base Ng qg sg g cdg X.A X.stack s H Eg).tr pn xe) (.Call (.Name x p1) [] [] p2)
      (fun σZ HZ Q => σZ[i]? = some (some (.ref f)) ∧ HZ c' = some (CodeO c' (X.env.qual ++ "<lambda>")) ∧ tb σ HZ Q) := by
  refine ⟨fun pinsZ sZ σZ HZ Q IZ ⟨hs, hc, ht⟩ => wpAny_Call_Name_kw (thn ((pe_var (pos := p1) (i := i) hN hv n1 n2).run pinsZ sZ σZ HZ (fun v H1 => v = .ref f ∧ H1 = HZ) IZ ⟨.ref f, hs, rfl, rfl⟩) fun w s1 ⟨v, H1, I1, r1, ev, eH⟩ => ?_)⟩
  subst ev
  rw [eH] at I1
  obtain rfl : w = Value.ref f := r1
  have still : ∀ {b : Addr} {o : Obj}, Loose X H s b o → s1.heap.get? b = some o := fun {b o} l => I1.base.keep b o l.get l.free l.nofr (fun z => nomatch (show b ∈ ([] : List Addr) from z))
  refine PySem.W.callWith_F0 ⟨_, _, _, _, still hf⟩ ?_
  obtain ⟨⟨oc, vs, t, hoc, hdc, hvc⟩, _, _⟩ := I1.hok c' _ hc
  have run : codeAny (model X.prog X.w) (X.A.deeper (envOfC qg sg s.heap.objs.size g cdg)) (.call (.ref f) ⟨[], []⟩) (CR (L2.CX X.prog X.w) (envOfC qg sg s.heap.objs.size g cdg :: X.stack) X.prog X.w HZ s1 Q E) s1 := by
    refine PySem.W.kla_callFunE hr.depth (still hf) rfl L.co L.gen rfl ⟨c', oc, vs, t, rfl, hoc, hdc, hvc⟩ (hb s1 (still hD) _ _ _ _ ?_)
    refine wpAny_newFunctionEnv (fun y hy => L.noc y hy) (fun y hy => ?_) (fun h1 hns hsb => ⟨I1.nolimit.fresh _ hsb, ?_⟩) L.kind
    · obtain rfl := List.mem_singleton.mp hy
      exact L.par
    show codeAny _ _ (.expr body (lamEnv X scope s1.heap.objs.size f c')) _ _
    have kp : ∀ b o, s1.heap.get? b = some o → h1.get? b = some o := fun b o e => hsb.extBut b o (Nat.ne_of_lt (Heap.lt_size e)) (Heap.get?_push_of_some _ e)
    have J : Inv (lamCx X (X.A.deeper (envOfC qg sg s.heap.objs.size g cdg)) (envOfC qg sg s.heap.objs.size g cdg :: X.stack) s1 HZ E scope f c') [] σ HZ { s1 with heap := h1, toks := s1.toks + ([(a, u)] : List (Str × Value)).length } :=
      dl_start I L I1.env0 hr.hd I1.base hns kp
    refine PySem.W.kla_codeExpr (wpAny_mono ((bodyOk _ _ s1 HZ (hr.deeper _)).run [] _ _ HZ Q J ht) (fun v s' hq => ?_) fun _ _ hq => hq)
    obtain ⟨y, H', J', rv, q⟩ := hq
    exact ⟨y, H', J'.os, J'.bare, J'.base, J'.hok, rv, q⟩
  have hx : Passes (L2.CX X.prog X.w) ((cxOf CXg X.prog X.w X.K X.mg X.base Ng qg sg g cdg X.A X.stack s H Eg).tr pn xe) E := passes_call tk hW
  refine wpAny_call (codeAny_mono run fun r s' hq => ?_)
  match r, hq with
  | .error e, hq => exact hx pinsZ σZ HZ s1 e s' I1 hq
  | .ok (.ret u), hq => exact I1.after hq
  | .ok .next, hq => exact hq.elim
  | .ok .brk, hq => exact hq.elim
  | .ok .cont, hq => exact hq.elim
/-- g(lambda a=z: body) -/
theorem pe_dlcall {T : List (Addr × Str)} {TT : (XK → Hp → VK → Prop) → Hp → VK → Prop} {x y a : Str} {g c P : Addr} {k j : Nat} {z : Int} {pg : Arguments} {bg : List Stmt} {sg : Scope} {dV kV doc pm cdv ct oc : Value} {an od : Option Addr} {osl : Array (Option Value)} {Ng : List Str}
    {params : Arguments} {body : Expr} {scope : Scope} {t : XK → TE} {p p0 lpos pos : Pos} (hg : Gl X x) (hm : X.mg x = some (.ref g)) (hk : PySem.W.keepIn X.K (.ref g) = true)
    (lk : X.K.lookup g = some ⟨oc, od, .func (PySem.W.fnOf x x pg bg sg dV kV doc pm an cdv ct), osl⟩) (hcg : PySem.W.codeIn X.K cdv x = true) (hb : L2.Binds X.K (PySem.W.fnOf x x pg bg sg dV kV doc pm an cdv ct) [y] []) (Sg : FnScope Ng [y] sg) (hNg : Ng[0]? = some y) (hva : Vis sg y)
    (hG : GivesTo X Ng x sg g cdv bg y (X.env.qual ++ "<lambda>") TT)
    (TB : TabB X.base X.mg c P) (hcode : X.env.code = .ref c) (hmT : (P, X.env.qual ++ "<lambda>") ∈ T) (hu : ∀ p ∈ T, p.1 = P → p.2 = X.env.qual ++ "<lambda>") (hr : Room (k + 2) X.A) (L : LamD X.env.scope scope a X.N)
    (hdef : defaultsOf params X.env = ([eval (.Constant (.int z) j p0) X.env], [])) (hkw : params.kwonlyargs = [])
    (binds : ∀ (q : Str) (cl : List (Str × Addr)) (pm cv ctv u : Value) (D : Addr) (s2 : Shared), s2.heap.get? D = some (oneTup u) → BindsTo s2 (dlFn q params body scope cl pm cv ctv (.ref D)) ⟨[], []⟩ [(a, u)])
    (bodyOk : ∀ (A : Around) (outer : List Env) (s : Shared) (H : Hp) (E : XK) (f c' : Addr), Room k (A.deeper (lamEnv X scope s.heap.objs.size f c')) → PE (lamCx X A outer s H E scope f c') body (t E))
    (n0 : (x == ("__debug__" : Str)) = false := by decide) (n1 : (y == ("__debug__" : Str)) = false := by decide) (n2 : (y == ("__classdict__" : Str)) = false := by decide) :
    PE X (.Call (.Name x p) [.Lambda params body scope lpos] [] pos) (tLam T TT t) := by
  refine ⟨fun pins s σ H Q I ⟨hT, h⟩ => wpAny_Call_Name_kw (ld_glob I hg hm (PySem.W.callWith_K (h₀ := X.base) I.ok.mod.kin hk ?_ (by rfl) (by rfl)) n0)⟩
  show wpAny _ _ (spliced ((false, eval (.Lambda params body scope lpos) X.env) :: backTo pos (starEach [] X.env))) _ _ s
  refine Calls.spliced_cons (dl_make I TB hcode hmT hu hT hdef hkw (L.has I.ok) (fun _ _ z => z) fun f D c' pm' ctv u H1 s' I1 eN T1 ru hD hf hco => Calls.spliced_nil ⟨I1.kIn, ?_⟩)
  have run : codeAny (model X.prog X.w) X.A (.call (.ref g) ⟨[.ref f], []⟩) (CR C8.CX0 X.stack X.prog X.w H1 s' Q C8.E0) s' := by
    refine run_ofS (N := Ng) (ps := [y]) (us := [.ref f]) (vs := [.ref f]) lk hcg Sg hr I1.env0 (hb s' [.ref f] I1.kIn rfl) (.cons rfl .nil) rfl fun hr' => ?_
    obtain ⟨t', ht', hq'⟩ := hG f c' s' H1 Q (fun E H' Q' => t E σ H' Q') (fun W pn xe E p1 p2 tk hW => dl_act (i := 0) I1 L hf hD (fun s2 q => binds _ _ _ _ _ _ _ s2 q) tk hW hr' (fun A outer s H hr2 => bodyOk A outer s H E f c' hr2) hNg hva n1 n2) hco (h H1 eN T1)
    exact ⟨t', ht'.nox, hq'⟩
  refine wpAny_call (codeAny_mono run fun r s2 hq => ?_)
  match r, hq with
  | .error e, hq => exact (show False from hq).elim
  | .ok (.ret u), hq => exact I1.after hq
  | .ok .next, hq => exact hq.elim
  | .ok .brk, hq => exact hq.elim
  | .ok .cont, hq => exact hq.elim
end
end VG

set_option maxRecDepth 100000
/-! Data: their types, their sizes, data that stand on new addresses alone. -/
namespace VG
open PySem PySem.Spec PyProof.Rows L2
def tyN : PyData → String
  | .none => "NoneType"
  | .bool _ => "bool"
  | .int _ => "int"
  | .str _ => "str"
  | .list _ => "list"
  | .tuple _ => "tuple"
  | .dict _ => "dict"
theorem tyx_list {K : PySem.W.Frag} {H : Hp} {a : Addr} {xs : List V} (h : SqL K H a xs) : TyX K H (.ref a) (.type "list") := by
  rcases h with (h | ⟨o, h⟩) | ⟨o, its, n, h, c, _⟩
  · exact .base (.lst h)
  · exact .base (.frz h)
  · exact .kList h c
theorem tyx_tup {K : PySem.W.Frag} {H : Hp} {a : Addr} {xs : List V} (h : SqT K H a xs) : TyX K H (.ref a) (.type "tuple") := by
  rcases h with (h | ⟨o, h⟩) | ⟨o, its, n, h, c, _⟩
  · exact .base (.tup h)
  · exact .fTuple h
  · exact .kTuple h c
theorem Dp.tyx {K : PySem.W.Frag} {H : Hp} : ∀ {v : V} {d : PyData}, Dp K H v d → TyX K H v (.type (tyN d))
  | _, _, .non => .base .non
  | _, _, .bl b => .base (.bl b)
  | _, _, .int i => .base (.int i)
  | _, _, .str x => .base (.str x)
  | _, _, .lst h _ => tyx_list h
  | _, _, .tup h _ => tyx_tup h
/-- at most n deep, at most 1000 wide -/
def fit : Nat → PyData → Bool
  | _, .none => true
  | _, .bool _ => true
  | _, .int _ => true
  | _, .str _ => true
  | n + 1, .list ds => decide (ds.length ≤ 1000) && ds.all (fit n)
  | n + 1, .tuple ds => decide (ds.length ≤ 1000) && ds.all (fit n)
  | _, _ => false
/-- what H' has more than H -/
def newer (H H' : Hp) : Hp := fun b => match H b with | none => H' b | some _ => none
theorem newer_at {H H' : Hp} {b : Addr} (h : H b = none) : newer H H' b = H' b := by unfold newer; rw [h]
theorem newer_none {H H' : Hp} {b : Addr} {o : HO} (h : H b = some o) : newer H H' b = none := by unfold newer; rw [h]
theorem newer_sub {H H' : Hp} : Same (newer H H') H' := fun b o e => by
  cases h : H b with
  | none => rw [newer_at h] at e; exact e
  | some u => rw [newer_none h] at e; cases e
/-- fewer were there ahead, more stand now -/
theorem newer_mono {H G H' G' : Hp} (h : ∀ b, H b = none → G b = none) (s : ∀ b, G b = none → ∀ o, H' b = some o → G' b = some o) : Same (newer H H') (newer G G') := fun b o e => by
  cases z : H b with
  | none =>
    rw [newer_at z] at e
    rw [newer_at (h b z)]
    exact s b (h b z) o e
  | some u =>
    rw [newer_none z] at e
    cases e
theorem DpAll.at' {K : PySem.W.Frag} {H : Hp} : ∀ {xs : List V} {ds : List PyData} {i : Nat} {x : V}, DpAll K H xs ds → xs[i]? = some x → ∃ d, ds[i]? = some d ∧ Dp K H x d
  | _, _, 0, _, .cons h _, e => by
    cases e
    exact ⟨_, rfl, h⟩
  | _, _, i + 1, _, .cons _ t, e => DpAll.at' (i := i) t e
theorem DpAll.len {K : PySem.W.Frag} {H : Hp} : ∀ {xs : List V} {ds : List PyData}, DpAll K H xs ds → xs.length = ds.length
  | _, _, .nil => rfl
  | _, _, .cons _ t => congrArg (· + 1) (DpAll.len t)
theorem DpAll.snoc {K : PySem.W.Frag} {H : Hp} {y : V} {d : PyData} (h : Dp K H y d) : ∀ {xs : List V} {ds : List PyData}, DpAll K H xs ds → DpAll K H (xs ++ [y]) (ds ++ [d])
  | _, _, .nil => .cons h .nil
  | _, _, .cons g t => .cons g (DpAll.snoc h t)
/-- while a list of copies grows at D: what is there -/
structure Copying (K : PySem.W.Frag) (H : Hp) (D : Addr) (ds : List PyData) (i : Nat) (G : Hp) : Prop where
  ex : ∃ acc, G D = some (.lst acc) ∧ acc.length = i ∧ DpAll K (newer (upd H D (.lst [])) G) acc (ds.take i)
  same : Same H G
theorem Copying.start {K : PySem.W.Frag} {H : Hp} {D : Addr} {ds : List PyData} (hD : H D = none) : Copying K H D ds 0 (upd H D (.lst [])) :=
  ⟨⟨[], upd_same, rfl, .nil⟩, fun b o e => by rw [upd_ne (ne_of_none e hD)]; exact e⟩
theorem Copying.more {K : PySem.W.Frag} {H G G' : Hp} {D : Addr} {ds : List PyData} {i : Nat} {d : PyData} {y : V} (hD : H D = none) (c : Copying K H D ds i G) (hd : ds[i]? = some d) (s : Same G G') (hy : Dp K (newer G G') y d) :
    ∃ acc, G' D = some (.lst acc) ∧ acc.length = i ∧ Copying K H D ds (i + 1) (upd G' D (.lst (acc ++ [y]))) := by
  obtain ⟨⟨acc, ea, el, ed⟩, sm⟩ := c
  have off : ∀ {b : Addr} {u : HO}, b ≠ D → upd G' D u b = G' b := fun h => upd_ne h
  refine ⟨acc, s _ _ ea, el, ⟨acc ++ [y], upd_same, by rw [List.length_append, el]; rfl, ?_⟩, fun b o e => by rw [off (ne_of_none e hD)]; exact s _ _ (sm _ _ e)⟩
  have et : ds.take (i + 1) = ds.take i ++ [d] := by
    rw [List.take_add_one, hd]
    rfl
  rw [et]
  refine DpAll.snoc (Dp.same (newer_mono (fun b z => ?_) fun b z o e => ?_) d y hy) (DpAll.same (newer_mono (fun b z => z) fun b z o e => ?_) _ _ ed)
  · have n : b ≠ D := fun q => by
      rw [q, ea] at z
      cases z
    rw [upd_ne n]
    cases q : H b with
    | none => rfl
    | some o =>
      rw [sm b o q] at z
      cases z
  · have n : b ≠ D := fun q => by
      rw [q, upd_same] at z
      cases z
    rw [off n]
    exact e
  · have n : b ≠ D := fun q => by
      rw [q, upd_same] at z
      cases z
    rw [off n]
    exact s _ _ e
theorem Copying.all {K : PySem.W.Frag} {H G : Hp} {D : Addr} {ds : List PyData} (hD : H D = none) (c : Copying K H D ds ds.length G) : ∃ acc, G D = some (.lst acc) ∧ DpAll K (newer H G) acc ds := by
  obtain ⟨⟨acc, ea, _, ed⟩, sm⟩ := c
  rw [List.take_length] at ed
  refine ⟨acc, ea, DpAll.same (newer_mono (fun b z => ?_) fun b _ o e => e) _ _ ed⟩
  by_cases n : b = D
  · rw [n]
    exact hD
  · rw [upd_ne n] at z
    exact z
/-- copied(x), x data at most n deep: the same data on new addresses -/
def spCopy (K : PySem.W.Frag) (n : Nat) : Sp := fun vs H Q _ => ∃ (x : V) (d : PyData), vs = [x] ∧ Dp K H x d ∧ fit n d = true ∧ ∀ (y : V) (H' : Hp), Same H H' → Dp K (newer H H') y d → Q y H'
def spPrev (K : PySem.W.Frag) : Nat → Sp
  | 0 => fun _ _ _ _ => False
  | n + 1 => spCopy K n
/-- how the rest of such a def is told of a scalar -/
theorem dp_newer {K : PySem.W.Frag} {H G : Hp} {x : V} {d : PyData} (h : Dp K H x d) (n1 : ∀ ds, d ≠ .list ds) (n2 : ∀ ds, d ≠ .tuple ds) : Dp K G x d := by
  cases h with
  | non => exact .non
  | bl b => exact .bl b
  | int i => exact .int i
  | str z => exact .str z
  | lst => exact absurd rfl (n1 _)
  | tup => exact absurd rfl (n2 _)
end VG

set_option maxRecDepth 100000
/-! Own errors: an __init__ that calls super().__init__('..'), keeps copies of what it got, then the name of its class as its code. -/
namespace VG
open PySem PySem.Spec PyProof.Rows L2
/-- without what is told by a property alone -/
def nox (H : Hp) : Hp := fun b => match H b with
  | some (.ext _) => none
  | o => o
theorem nox_of {H : Hp} {b : Addr} {o : HO} (h : H b = some o) (n : ∀ φ, o ≠ .ext φ) : nox H b = some o := by
  unfold nox
  rw [h]
  cases o <;> first | rfl | exact absurd rfl (n _)
theorem of_nox {H : Hp} {b : Addr} {o : HO} (h : nox H b = some o) : H b = some o ∧ ∀ φ, o ≠ .ext φ := by
  unfold nox at h
  cases e : H b with
  | none =>
    rw [e] at h
    cases h
  | some u =>
    rw [e] at h
    cases u <;> cases h <;> exact ⟨rfl, fun φ z => by cases z⟩
theorem SqL.nox {K : PySem.W.Frag} {H : Hp} {a : Addr} {xs : List V} (h : SqL K H a xs) : SqL K (VG.nox H) a xs := by
  rcases h with (h | ⟨o, h⟩) | h
  · exact .inl (.inl (nox_of h fun _ z => by cases z))
  · exact .inl (.inr ⟨o, nox_of h fun _ z => by cases z⟩)
  · exact .inr h
theorem SqT.nox {K : PySem.W.Frag} {H : Hp} {a : Addr} {xs : List V} (h : SqT K H a xs) : SqT K (VG.nox H) a xs := by
  rcases h with (h | ⟨o, h⟩) | h
  · exact .inl (.inl (nox_of h fun _ z => by cases z))
  · exact .inl (.inr ⟨o, nox_of h fun _ z => by cases z⟩)
  · exact .inr h
mutual
theorem Dp.nox {K : PySem.W.Frag} {H : Hp} : ∀ (d : PyData) (v : V), Dp K H v d → Dp K (VG.nox H) v d
  | .none, _, h => by cases h; exact .non
  | .bool b, _, h => by cases h; exact .bl b
  | .int i, _, h => by cases h; exact .int i
  | .str x, _, h => by cases h; exact .str x
  | .list ds, _, h => by
    cases h with
    | lst hs hd => exact .lst (SqL.nox hs) (DpAll.nox ds _ hd)
  | .tuple ds, _, h => by
    cases h with
    | tup hs hd => exact .tup (SqT.nox hs) (DpAll.nox ds _ hd)
  | .dict _, _, h => by cases h
theorem DpAll.nox {K : PySem.W.Frag} {H : Hp} : ∀ (ds : List PyData) (vs : List V), DpAll K H vs ds → DpAll K (VG.nox H) vs ds
  | [], _, h => by cases h; exact .nil
  | d :: ds, _, h => by
    cases h with
    | cons h t => exact .cons (Dp.nox d _ h) (DpAll.nox ds _ t)
end
/-- fields and the data that they hold -/
def FlOk (K : PySem.W.Frag) (H : Hp) (fs : List (Str × V)) (FL : List (Str × PyData)) : Prop := fs.map (·.1) = FL.map (·.1) ∧ DpAll K H (fs.map (·.2)) (FL.map (·.2))
theorem FlOk.nil {K : PySem.W.Frag} {H : Hp} : FlOk K H [] [] := ⟨rfl, .nil⟩
theorem FlOk.cons {K : PySem.W.Frag} {H : Hp} {fs : List (Str × V)} {FL : List (Str × PyData)} {f : Str} {v : V} {d : PyData} (h : Dp K H v d) (t : FlOk K H fs FL) : FlOk K H ((f, v) :: fs) ((f, d) :: FL) :=
  ⟨congrArg (f :: ·) t.1, .cons h t.2⟩
theorem FlOk.same {K : PySem.W.Frag} {H H' : Hp} {fs : List (Str × V)} {FL : List (Str × PyData)} (e : Same H H') (t : FlOk K H fs FL) : FlOk K H' fs FL := ⟨t.1, DpAll.same e _ _ t.2⟩
theorem FlOk.len {K : PySem.W.Frag} {H : Hp} {fs : List (Str × V)} {FL : List (Str × PyData)} (t : FlOk K H fs FL) : fs.length = FL.length := by
  have z := congrArg List.length t.1
  rw [List.length_map, List.length_map] at z
  exact z
theorem FlOk.get {K : PySem.W.Frag} {H : Hp} {f : Str} {d : PyData} : ∀ {fs : List (Str × V)} {FL : List (Str × PyData)}, FlOk K H fs FL → FL.lookup f = some d → ∃ v, fs.lookup f = some v ∧ Dp K H v d
  | [], [], _, h => by cases h
  | (g, v) :: fs, (g', e) :: FL, ⟨h1, h2⟩, h => by
    have h1 := List.cons.inj h1
    have eg : g = g' := h1.1
    subst eg
    have h2 : DpAll K H (v :: fs.map (·.2)) (e :: FL.map (·.2)) := h2
    cases h2 with
    | cons hv ht =>
      rw [List.lookup_cons] at h ⊢
      cases q : f == g with
      | true =>
        rw [q] at h
        cases h
        exact ⟨v, rfl, hv⟩
      | false =>
        rw [q] at h
        exact FlOk.get ⟨h1.2, ht⟩ h
  | [], _ :: _, ⟨h, _⟩, _ => by cases h
  | _ :: _, [], ⟨h, _⟩, _ => by cases h
/-- an error at a is being made: H behind super().__init__, G now, FL what it holds (the last first) -/
structure Stg (K : PySem.W.Frag) (H : Hp) (a C : Addr) (FL : List (Str × PyData)) (G : Hp) : Prop where
  ex : ∃ fs, FlOk K (nox (newer H G)) fs FL ∧ ((FL = [] ∧ G a = some (exo a C none)) ∨ ∃ dx, H dx = none ∧ dx ≠ a ∧ G a = some (exo a C (some dx)) ∧ G dx = some (exd dx fs))
  but : ∀ b o, b ≠ a → H b = some o → G b = some o
  at_ : (H a).isSome = true
section
variable {K : PySem.W.Frag} {H G G1 : Hp} {a C : Addr} {FL : List (Str × PyData)}
theorem Stg.start (h : H a = some (exo a C none)) : Stg K H a C [] H := ⟨⟨[], .nil, .inl ⟨rfl, h⟩⟩, fun _ _ _ e => e, by rw [h]; rfl⟩
theorem Stg.on (s : Stg K H a C FL G) (sm : Same G G1) : Stg K H a C FL G1 := by
  obtain ⟨⟨fs, hf, hx⟩, but, ha⟩ := s
  refine ⟨⟨fs, hf.same fun b o e => ?_, ?_⟩, fun b o n e => sm _ _ (but b o n e), ha⟩
  · obtain ⟨e1, e2⟩ := of_nox e
    exact nox_of (newer_mono (fun _ z => z) (fun b _ o q => sm b o q) b o e1) e2
  · rcases hx with ⟨e1, e2⟩ | ⟨dx, h1, h2, h3, h4⟩
    · exact .inl ⟨e1, sm _ _ e2⟩
    · exact .inr ⟨dx, h1, h2, sm _ _ h3, sm _ _ h4⟩
theorem exo_ext {φ : HO} {e C : Addr} {d : Option Addr} (h : φ = exo e C d) : ∃ ψ, φ = .ext ψ := ⟨_, h⟩
/-- a field is stored -/
theorem Stg.store {σ : L2.St} {R : L2.St → Hp → Prop} {f : Str} {y : V} {d : PyData} (s : Stg K H a C FL G) (hy : Dp K (nox (newer H G)) y d) (hl : FL.length ≤ 900) (next : ∀ G', Stg K H a C ((f, d) :: FL) G' → R σ G') :
    (G a = some (exo a C none) ∧ ∀ dx, G dx = none → dx ≠ a → R σ (upd (upd G dx (exd dx [(f, y)])) a (exo a C (some dx)))) ∨
      ∃ (dx : Addr) (fs : List (Str × V)), G a = some (exo a C (some dx)) ∧ G dx = some (exd dx fs) ∧ fs.length ≤ 900 ∧ R σ (upd G dx (exd dx ((f, y) :: fs))) := by
  obtain ⟨⟨fs, hf, hx⟩, but, ha⟩ := s
  have nH : ∀ {b : Addr}, G b = none → b ≠ a → H b = none := fun {b} z n => by
    cases q : H b with
    | none => rfl
    | some o =>
      rw [but b o n q] at z
      cases z
  have nA : ∀ {b : Addr} {o : HO}, newer H G b = some o → b ≠ a := fun {b o} e z => by
    obtain ⟨u, hu⟩ := Option.isSome_iff_exists.mp ha
    rw [z, newer_none hu] at e
    cases e
  rcases hx with ⟨rfl, e2⟩ | ⟨dx, h1, h2, h3, h4⟩
  · refine .inl ⟨e2, fun dx hdx ne => next _ ⟨⟨[(f, y)], ?_, .inr ⟨dx, nH hdx ne, ne, upd_same, by rw [upd_ne ne, upd_same]⟩⟩, fun b o n e => ?_, ha⟩⟩
    · refine FlOk.cons (Dp.same (fun b o e => ?_) d y hy) .nil
      obtain ⟨e1, e3⟩ := of_nox e
      refine nox_of (newer_mono (fun _ z => z) (fun b _ o q => ?_) b o (H := H) (G := H) (H' := fun b => if b = a then none else G b) ?_) e3
      · have q : (if b = a then none else G b) = some o := q
        by_cases n : b = a
        · rw [if_pos n] at q
          cases q
        · rw [if_neg n] at q
          rw [upd_ne n, upd_ne (ne_of_none q hdx)]
          exact q
      · have n := nA e1
        have z := newer_sub b o e1
        cases w : H b with
        | none =>
          rw [newer_at w, if_neg n]
          exact z
        | some u =>
          rw [newer_none w] at e1
          cases e1
    · rw [upd_ne n]
      have z := but b o n e
      rw [upd_ne (ne_of_none z hdx)]
      exact z
  · refine .inr ⟨dx, fs, h3, h4, by rw [hf.len]; exact hl, next _ ⟨⟨(f, y) :: fs, ?_, .inr ⟨dx, h1, h2, by rw [upd_ne (Ne.symm h2)]; exact h3, upd_same⟩⟩, fun b o n e => ?_, ha⟩⟩
    · have sm : Same (nox (newer H G)) (nox (newer H (upd G dx (exd dx ((f, y) :: fs))))) := fun b o e => by
        obtain ⟨e1, e3⟩ := of_nox e
        have z := newer_sub b o e1
        have nd : b ≠ dx := fun q => by
          rw [q, h4] at z
          exact e3 _ (Option.some.inj z).symm
        refine nox_of ?_ e3
        cases w : H b with
        | none =>
          rw [newer_at w, upd_ne nd]
          exact z
        | some u =>
          rw [newer_none w] at e1
          cases e1
      exact FlOk.cons (Dp.same sm d y hy) (hf.same sm)
    · have z := but b o n e
      rw [upd_ne (ne_of_none e h1)]
      exact z
end
/-! ### the statements of such an __init__ behind super().__init__('..') -/
/-- self.f = copied(par) for each field and the slot of its parameter, then self.code = self.__class__.__name__ -/
inductive IniSts (ps : List Str) : List (Str × Nat) → List Stmt → Prop where
  | code {x : Str} {p1 p2 p3 p4 p5 p6 : Pos} (h : ps[0]? = some x) : IniSts ps [] [.Assign [.Attribute (.Name x p1) "code" p2] (.Attribute (.Attribute (.Name x p3) "__class__" p4) "__name__" p5) p6]
  | fld {x y f : Str} {i : Nat} {l : List (Str × Nat)} {ss : List Stmt} {p1 p2 p3 p4 p5 p6 : Pos} (h : ps[0]? = some x) (hy : ps[i]? = some y) (t : IniSts ps l ss) :
      IniSts ps ((f, i) :: l) (.Assign [.Attribute (.Name x p1) f p2] (.Call (.Name "copied" p3) [.Name y p4] [] p5) p6 :: ss)
/-- what stands in the parameters' slots -/
def Args (K : PySem.W.Frag) (n : Nat) (σ : L2.St) (H : Hp) : List (Str × Nat) → List PyData → Prop
  | [], [] => True
  | p :: l, d :: ds => (∃ x, σ[p.2]? = some (some x) ∧ Dp K (nox H) x d ∧ fit n d = true) ∧ Args K n σ H l ds
  | _, _ => False
/-- the fields behind them, the last first -/
def after : List (Str × Nat) → List PyData → List (Str × PyData) → List (Str × PyData)
  | p :: l, d :: ds, FL => after l ds ((p.1, d) :: FL)
  | _, _, FL => FL
def tIni (K : PySem.W.Frag) (C : Addr) (nm : Str) (n : Nat) (l : List (Str × Nat)) : TS := fun D σ G => ∃ (H : Hp) (a : Addr) (FL : List (Str × PyData)) (rs : List PyData), σ[0]? = some (some (.ref a)) ∧ H a = some (exo a C none) ∧ Stg K H a C FL G ∧
  Args K n σ H l rs ∧ FL.length + l.length ≤ 100 ∧ ∀ G', Stg K H a C (("code", .str nm) :: after l rs FL) G' → D.nx σ G'
section
variable {X : Cx} {C fC : Addr} {fdC : FuncData} {k n : Nat} {nm : Str}
/-- an own error's class, as its __init__ needs it -/
structure IniC (K : PySem.W.Frag) (C : Addr) (nm : Str) : Prop where
  oex : OexC K C
  cls : ClsTxt K C nm
  own : OwnX K C
theorem pss_ini (hX : ∀ x i p, X.N[i]? = some x → PE X (.Name x p) (tVar i)) (T : IniC X.K C nm) (GC : FnOk X.prog X.w X.K X.mg X.base CX0 k fC fdC ["value"] (spCopy X.K n)) (hr : Room k X.A) (hg : Gl X "copied") (mC : X.mg "copied" = some (.ref fC))
    (hk : PySem.W.keepIn X.K (.ref fC) = true) (bC : L2.Binds X.K fdC ["value"] []) :
    ∀ {l : List (Str × Nat)} {ss : List Stmt}, (∀ p ∈ l, p.1 ∈ exFields) → IniSts X.N l ss → PSs X ss (tIni X.K C nm n l) := by
  intro l ss hf hs
  induction hs with
  | code h =>
    refine ⟨fun pins s σ H D I hh => (pss_one (ps_ost (hX _ 0 _ h) (pe_clsName (hX _ 0 _ h)))).run pins s σ H D I ?_⟩
    obtain ⟨H0, a, FL, rs, h0, hae, st, ha, hl, q⟩ := hh
    have ex : H a = some (exo a C none) ∨ ∃ (dx : Addr) (fs : List (Str × V)), H a = some (exo a C (some dx)) ∧ H dx = some (exd dx fs) := by
      obtain ⟨fs, _, ⟨_, e⟩ | ⟨dx, _, _, e1, e2⟩⟩ := st.ex
      · exact .inl e
      · exact .inr ⟨dx, fs, e1, e2⟩
    refine ⟨_, h0, a, C, nm, rfl, T.cls, ex, _, h0, a, C, rfl, T.oex, T.own.no _ (by decide), ?_⟩
    refine st.store (R := D.nx) (.str nm) (by have := hl; simp at this; omega) fun G' s' => q G' ?_
    match rs, ha with
    | [], _ => exact s'
  | @fld x y f i l ss p1 p2 p3 p4 p5 p6 h hy t ih =>
    have ih := ih fun p hp => hf p (List.mem_cons_of_mem _ hp)
    refine ⟨fun pins s σ H D I hh => (pss_cons (ps_ost (hX _ 0 _ h) (pe_call GC hr hg mC hk bC .nil pass0 (pa_cons (hX _ i _ hy) pa_nil))) ih).run pins s σ H D I ?_⟩
    obtain ⟨H0, a, FL, rs, h0, hae, st, ha, hl, q⟩ := hh
    match rs, ha with
    | d :: rs, ⟨⟨x, hx, hd, hfit⟩, ha⟩ =>
      have noxH : Same (nox H0) H := fun b o e => by
        obtain ⟨e1, e2⟩ := of_nox e
        refine st.but b o (fun z => ?_) e1
        rw [z, hae] at e1
        exact e2 _ (Option.some.inj e1).symm
      refine ⟨x, hx, x, d, rfl, Dp.same noxH d x hd, hfit, fun y G1 sm hy' => ⟨_, h0, a, C, rfl, T.oex, T.own.no _ (hf (f, i) List.mem_cons_self), ?_⟩⟩
      have st1 := st.on sm
      have hy2 : Dp X.K (nox (newer H0 G1)) y d := by
        refine Dp.nox d y (Dp.same (newer_mono (fun b z => ?_) fun _ _ _ e => e) d y hy')
        cases w : H0 b with
        | none => rfl
        | some o =>
          by_cases nb : b = a
          · obtain ⟨fs, _, ⟨_, e⟩ | ⟨dx, _, _, e1, e2⟩⟩ := st.ex
            · rw [nb, e] at z
              cases z
            · rw [nb, e1] at z
              cases z
          · rw [st.but b o nb w] at z
            cases z
      have hl : FL.length + (l.length + 1) ≤ 100 := hl
      refine st1.store (R := (_ : Ends).nx) hy2 (by omega) fun G' s' => ?_
      exact ⟨H0, a, (f, d) :: FL, rs, h0, hae, s', ha, by show FL.length + 1 + l.length ≤ 100; omega, q⟩
end
end VG
namespace VG
open PySem PySem.Spec PyProof.Rows L2
/-- __init__ of an own error: what it leaves -/
def spErr (K : PySem.W.Frag) (C : Addr) (nm : Str) (n m : Nat) (l : List (Str × Nat)) : Sp := fun vs H Q _ => ∃ (a : Addr) (xs : List V) (rs : List PyData), vs = .ref a :: xs ∧ vs.length = m ∧ H a = some (exo a C none) ∧ Args K n (vs.map some) H l rs ∧ l.length ≤ 100 ∧
  ∀ G', Stg K H a C (("code", .str nm) :: after l rs []) G' → Q .non G'
section
variable {P : Program} {w : World} {K : PySem.W.Frag} {mg : Str → Option Value} {base : Heap} {B i newId : String} {bmB : List Value} {C f cc cda fC : Addr} {qual : Str} {params : Arguments} {rest : List Stmt} {sc : Scope} {fd fdC : FuncData} {ps : List Str} {p0 p1 p2 p3 p4 p5 : Pos} {j k n : Nat} {z nm : Str} {self : Arg} {l : List (Str × Nat)}
theorem ok_ini (hev : SupEv p0 p1 p2 p3 p4 j z) (T : IniTxt P K mg B i newId bmB C f cc cda qual params (superInit p0 p1 p2 p3 p4 p5 j z :: rest) sc fd) (S : IniScope ps sc) (hself : (params.posonlyargs ++ params.args).head? = some self) (hp0 : ps[0]? = some self.arg)
    (TC : IniC K C nm) (GC : FnOk P w K mg base CX0 k fC fdC ["value"] (spCopy K n)) (hg : sc.names.lookup ("copied" : Str) = some .globalImplicit) (mC : mg "copied" = some (.ref fC)) (hk : PySem.W.keepIn K (.ref fC) = true) (bC : L2.Binds K fdC ["value"] [])
    (hps : ∀ x ∈ ps, (x == ("__debug__" : Str)) = false ∧ (x == ("__classdict__" : Str)) = false) (hf : ∀ p ∈ l, p.1 ∈ exFields) (hs : IniSts ps l rest) : FnOk P w K mg base CX0 (k + 1) f fd ps (spErr K C nm n ps.length l) := by
  refine ini_ok hev T S hself hp0 (fun vs H Q E h => ?_) fun A outer s H vs Q E hr h => ?_
  · obtain ⟨_, _, _, _, e, _⟩ := h
    exact e
  · obtain ⟨a, xs, rs, rfl, hl, hea, ha, hn, q⟩ := h
    refine ⟨a, xs, rfl, hea, _, pss_ini (X := iniCx P w K mg base ps qual sc f cda cc A outer s H) (C := C) (nm := nm) (n := n) (fun x i p hx => pe_var hx (.inl (S.par x (List.mem_of_getElem? hx))) (hps x (List.mem_of_getElem? hx)).1 (hps x (List.mem_of_getElem? hx)).2) TC GC hr hg mC hk bC hf hs, ?_⟩
    exact ⟨H, a, [], rs, rfl, hea, Stg.start hea, ha, by show 0 + l.length ≤ 100; omega, q⟩
end
end VG

set_option maxRecDepth 100000
/-! An own error is made and raised: what its class and its dict tell behind that. -/
namespace VG
open PySem PySem.Spec PyProof.Rows L2
/-- the dict of an error: its fields, the last first -/
def ErrD (K : PySem.W.Frag) (H : Hp) (dd : Addr) (FL : List (Str × PyData)) : Prop := ∃ fs, H dd = some (.xd fs) ∧ FlOk K H fs FL
theorem ErrD.same {K : PySem.W.Frag} {H H' : Hp} {dd : Addr} {FL : List (Str × PyData)} (e : Same H H') (h : ErrD K H dd FL) : ErrD K H' dd FL := by
  obtain ⟨fs, h1, h2⟩ := h
  exact ⟨fs, e _ _ h1, h2.same e⟩
def slots : Nat → List Str → List (Str × Nat)
  | _, [] => []
  | i, f :: fs => (f, i) :: slots (i + 1) fs
theorem slots_len : ∀ {i : Nat} {l : List Str}, (slots i l).length = l.length
  | _, [] => rfl
  | i, _ :: l => congrArg (· + 1) (slots_len (i := i + 1) (l := l))
theorem args_of {K : PySem.W.Frag} {n : Nat} {H : Hp} : ∀ {vs : List V} {ds : List PyData} {flds : List Str} {pre : List (Option V)}, DpAll K (nox H) vs ds → (∀ d ∈ ds, fit n d = true) → flds.length = vs.length → Args K n (pre ++ vs.map some) H (slots pre.length flds) ds
  | [], [], [], _, _, _, _ => trivial
  | v :: vs, d :: ds, f :: flds, pre, .cons h t, hf, hl => by
    refine ⟨⟨v, ?_, h, hf d List.mem_cons_self⟩, ?_⟩
    · show (pre ++ (some v :: vs.map some))[pre.length]? = _
      rw [List.getElem?_append_right (Nat.le_refl _), Nat.sub_self]
      rfl
    · have q := args_of (pre := pre ++ [some v]) t (fun d hd => hf d (List.mem_cons_of_mem _ hd)) (Nat.succ.inj hl)
      rw [List.length_append, List.append_assoc] at q
      exact q
/-- what is wished of C(vs ..), C an own error with the fields flds -/
theorem mk_err {K : PySem.W.Frag} {C : Addr} {nm : Str} {n m : Nat} {flds : List Str} {H1 : Hp} {vs : List V} {ds : List PyData} {Q : XK} (hm : flds.length + 1 = m) (hl : flds.length = vs.length) (h100 : flds.length ≤ 100) (hv : DpAll K H1 vs ds) (hf : ∀ d ∈ ds, fit n d = true)
    (q : ∀ (dd : Addr) (H' : Hp), Same H1 H' → ErrD K H' dd (("code", .str nm) :: after (slots 1 flds) ds []) → Q (.ref C) (some dd) H') :
    vs.length ≤ 1000 ∧ ∀ a, H1 a = none → spErr K C nm n m (slots 1 flds) (.ref a :: (vs ++ [])) (upd H1 a (exo a C none))
      (fun v H2 => v = .non ∧ ∃ (d : Addr) (fs : List (Str × V)), H2 a = some (exo a C (some d)) ∧ H2 d = some (exd d fs) ∧ H1 d = none ∧ Q (.ref C) (some d) (upd (del H2 a) d (.xd fs))) (fun _ _ _ => False) := by
  refine ⟨by omega, fun a ha => ?_⟩
  rw [List.append_nil]
  have sm1 : Same (nox H1) (nox (upd H1 a (exo a C none))) := fun b o e => by
    obtain ⟨e1, e2⟩ := of_nox e
    exact nox_of (by rw [upd_ne (ne_of_none e1 ha)]; exact e1) e2
  refine ⟨a, vs, ds, rfl, by show vs.length + 1 = m; omega, upd_same, args_of (pre := [some (.ref a)]) (DpAll.same sm1 _ _ (DpAll.nox _ _ hv)) hf hl, by rw [slots_len]; exact h100, fun G' st => ⟨rfl, ?_⟩⟩
  obtain ⟨⟨fs, hF, ⟨z, _⟩ | ⟨dx, h1, h2, h3, h4⟩⟩, but, _⟩ := st
  · cases z
  · have hd1 : H1 dx = none := by
      rw [upd_ne h2] at h1
      exact h1
    refine ⟨dx, fs, h3, h4, hd1, q dx _ (fun b o e => ?_) ⟨fs, upd_same, hF.same fun b o e => ?_⟩⟩
    · have na := ne_of_none e ha
      rw [upd_ne (ne_of_none e hd1), del_ne na]
      exact but b o na (by rw [upd_ne na]; exact e)
    · obtain ⟨e1, e2⟩ := of_nox e
      have z := newer_sub b o e1
      have nd : b ≠ dx := fun y => by
        rw [y, h4] at z
        exact e2 _ (Option.some.inj z).symm
      have na : b ≠ a := fun y => by
        rw [y, newer_none upd_same] at e1
        cases e1
      rw [upd_ne nd, del_ne na]
      exact z
/-- an own error's class C, called by its name: its __init__ keeps its promise -/
structure ErrC (P : Program) (w : World) (K : PySem.W.Frag) (mg : Str → Option Value) (base : Heap) (nm : Str) (flds : List Str) (C : Addr) (k n : Nat) : Prop where
  ini : IniC K C nm
  glob : mg nm = some (.ref C)
  few : flds.length ≤ 100
  run : ∃ (f : Addr) (fd : FuncData) (ps : List Str), PySem.W.findIn K (.ref C) "__init__" = some (some (.ref f)) ∧ PySem.W.typeIn K (.ref f) = some (.type "function") ∧ L2.Binds K fd ps [] ∧ FnOk P w K mg base CX0 k f fd ps (spErr K C nm n (flds.length + 1) (slots 1 flds))
/-- raise C(e ..); its reading is closed by mk_err -/
def tErr (K : PySem.W.Frag) (C : Addr) (nm : Str) (flds : List Str) (n : Nat) (W : WX) (ta : TA) : TS := fun _ σ H => tMkO C (spErr K C nm n (flds.length + 1) (slots 1 flds)) [] ta σ H fun cls d H' => W cls d σ H'
section
variable {X : Cx} {nm : Str} {flds : List Str} {C : Addr} {k n : Nat} {W : WX} {e : Expr} {es : List Expr} {ta : TA} {p pos pos2 : Pos}
theorem ps_err (T : ErrC X.prog X.w X.K X.mg X.base nm flds C k n) (hc : X.calm = true) (tk : Takes X W) (hr : Room (k + 1) X.A) (hg : Gl X nm) (ha : PA X (e :: es) ta) (n1 : (nm == ("__debug__" : Str)) = false := by decide)
    (n2 : starEach (e :: es) X.env = (false, eval e X.env) :: starEach es X.env := by rfl) (n3 : (backTo pos (starEach es X.env)).any (·.1) = false := by rfl) :
    PS X (.Raise (some (.Call (.Name nm p) (e :: es) [] pos)) none pos2) (tErr X.K C nm flds n W ta) := by
  obtain ⟨f, fd, ps, h1, h2, h3, h4⟩ := T.run
  exact ps_raise hc tk (pmk_oex T.ini.oex h1 h2 h4 hr h3 .nil pass0 hg T.glob ha n1 n2 n3)
end
end VG

set_option maxRecDepth 100000
/-! A def whose code object is known (lambdas are made in it); what a lambda's body may let out. -/
namespace VG
open PySem PySem.Spec PyProof.Rows L2 LamX
section
variable {P : Program} {w : World} {K : PySem.W.Frag} {mg : Str → Option Value} {base : Heap}
theorem okGC {x qual : Str} {st : Stmt} {f c : Addr} {fd : FuncData} {N ps : List Str} {k : Nat} {sp : Sp} (F : Fun K x qual st f fd) (S : FnScope N ps (defScope st)) (hc : fd.code = .ref c) (many : ∀ vs H Q E, sp vs H Q E → vs.length = ps.length)
    (body : ∀ (A : Around) (outer : List Env) (s : Shared) (H : Hp) (vs : List V) (Q : VK) (E : XK), A.guards = some [] → Room k (A.deeper (envOfC qual (defScope st) s.heap.objs.size f (.ref c))) → sp vs H Q E →
      ∃ t, PSs (cxOf CX0 P w K mg base N qual (defScope st) f (.ref c) A outer s H E).nox (defBody st) t ∧
        t { nx := fun _ H' => Q .non H', rt := Q } (L2.start N vs) H) : FnG P w K mg base CX0 (k + 1) f fd ps sp := by
  obtain ⟨oc, od, kV, doc, pm, an, cdv, ct, osl, rfl, lk, hcd⟩ := F.ex
  obtain rfl : cdv = .ref c := hc
  refine ⟨many, fun A outer s H args us vs Q E hG hr e0 hb r q => LamX.run_ofS lk hcd S hr e0 hb r (many _ _ _ _ q) fun hr' => ?_⟩
  obtain ⟨t, h1, h2⟩ := body A outer s H vs Q E hG hr' q
  exact ⟨t, h1.nox, h2⟩
end
theorem lam_passes {X : Cx} {A : Around} {outer : List Env} {s : Shared} {H : Hp} {E : XK} {scope : Scope} {f c' : Addr} : Passes (L2.CX X.prog X.w) (lamCx X A outer s H E scope f c') E := passes_call (W := fun cls d _ H => E cls d H) (takes_of rfl rfl rfl rfl) fun _ _ _ _ h => h
/-- a call that lets nothing out, of a def that may -/
theorem passF {X : Cx} {P : Program} {w : World} : Passes (L2.CX P w) X (fun _ _ _ => False) := fun _ _ _ _ _ _ _ ⟨_, _, _, _, _, _, _, _, _, _, _, _, h⟩ => h.elim
/-- sequences alone -/
def seqs (H : Hp) : Hp := fun b => match H b with
  | some (.lst xs) => some (.lst xs)
  | some (.tup xs) => some (.tup xs)
  | some (.frz o (.lst xs)) => some (.frz o (.lst xs))
  | some (.frz o (.tup xs)) => some (.frz o (.tup xs))
  | _ => none
theorem seqs_sub {H : Hp} {b : Addr} {o : HO} (h : seqs H b = some o) : H b = some o ∧ ∀ ps, o ≠ .tbl ps := by
  unfold seqs at h
  split at h <;> first | (rename_i e; cases h; exact ⟨e, fun _ z => by cases z⟩) | cases h
mutual
theorem Dp.seqs {K : PySem.W.Frag} {H : Hp} : ∀ (d : PyData) (v : V), Dp K H v d → Dp K (VG.seqs H) v d
  | .none, _, h => by cases h; exact .non
  | .bool b, _, h => by cases h; exact .bl b
  | .int i, _, h => by cases h; exact .int i
  | .str x, _, h => by cases h; exact .str x
  | .list ds, _, h => by
    cases h with
    | lst hs hd =>
      refine .lst ?_ (DpAll.seqs ds _ hd)
      rcases hs with (e | ⟨o, e⟩) | e
      · exact .inl (.inl (by unfold VG.seqs; rw [e]))
      · exact .inl (.inr ⟨o, by unfold VG.seqs; rw [e]⟩)
      · exact .inr e
  | .tuple ds, _, h => by
    cases h with
    | tup hs hd =>
      refine .tup ?_ (DpAll.seqs ds _ hd)
      rcases hs with (e | ⟨o, e⟩) | e
      · exact .inl (.inl (by unfold VG.seqs; rw [e]))
      · exact .inl (.inr ⟨o, by unfold VG.seqs; rw [e]⟩)
      · exact .inr e
  | .dict _, _, h => by cases h
theorem DpAll.seqs {K : PySem.W.Frag} {H : Hp} : ∀ (ds : List PyData) (vs : List V), DpAll K H vs ds → DpAll K (VG.seqs H) vs ds
  | [], _, h => by cases h; exact .nil
  | d :: ds, _, h => by
    cases h with
    | cons h t => exact .cons (Dp.seqs d _ h) (DpAll.seqs ds _ t)
end
/-- data stand where tables alone have grown -/
theorem Dp.grown {K : PySem.W.Frag} {H H' : Hp} {d : PyData} {v : V} (e : ExtN H H') (h : Dp K H v d) : Dp K H' v d := Dp.same (fun b o z => e b o (seqs_sub z).1 (seqs_sub z).2) d v (Dp.seqs d v h)
end VG

set_option maxRecDepth 100000
/-! Plain calls of defs with a star parameter. -/
namespace VG
open PySem PySem.Spec PyProof.Rows L2
section
variable {X : Cx} {CX : CXT} {k : Nat} {f : Addr} {sp : Sp} {E : XK} {x : Str} {p pos : Pos} {e : Expr} {es : List Expr} {t : TA}
theorem pe_callR (F : FnR X.prog X.w X.K X.mg X.base CX k f sp) (hr : Room k X.A) (hk : PySem.W.keepIn X.K (.ref f) = true) (hg : Gl X x) (hm : X.mg x = some (.ref f)) (hx : Passes CX X E) (ha : PA X (e :: es) t) (n1 : (x == ("__debug__" : Str)) = false := by decide)
    (n2 : starEach (e :: es) X.env = (false, eval e X.env) :: starEach es X.env := by rfl) (n3 : (backTo pos (starEach es X.env)).any (·.1) = false := by rfl) : PE X (.Call (.Name x p) (e :: es) [] pos) (fun σ H Q => t σ H fun vs H1 => sp vs H1 Q E) :=
  ⟨fun pins s σ H Q I q0 => wpAny_Call_Name_kw (ld_glob I hg hm (PySem.W.callWith_K (h₀ := X.base) I.ok.mod.kin hk (thn (ha.run pos pins s σ H _ I q0) fun us s1 ⟨vs, H1, I1, r, q⟩ => ⟨I1.kIn, wpAny_call (codeAny_mono (run_fnR F hr hx I1 r q) fun res s' z => z)⟩) n2 n3) n1)⟩
theorem pe_callR0 (F : FnR X.prog X.w X.K X.mg X.base CX k f sp) (hr : Room k X.A) (hk : PySem.W.keepIn X.K (.ref f) = true) (hg : Gl X x) (hm : X.mg x = some (.ref f)) (hx : Passes CX X E) (n1 : (x == ("__debug__" : Str)) = false := by decide) :
    PE X (.Call (.Name x p) [] [] pos) (fun σ H Q => sp [] H Q E) :=
  ⟨fun pins s σ H Q I q0 => wpAny_Call_Name_kw (ld_glob I hg hm (PySem.W.callWith_K0 I.kIn hk (wpAny_call (codeAny_mono (run_fnR (us := []) F hr hx I .nil q0) fun res s' z => z))) n1)⟩
end
end VG

set_option maxRecDepth 100000
/-! A hook that knows cStatics, and tells the __init__ of errors (whose closure holds their class). -/
namespace VG
open PySem PySem.Spec PyProof.Rows L2
open He (ba Fa DefD Tab Defn AlX)
def asI (g : Addr → Option Obj) (n : Nat) : List Addr := He.asD g n ++ [cStatics]
abbrev FnI : Type := Option (Str × Str × Arguments × FuncBody × Scope × Addr × List Str × Addr)
def fnI (K : PySem.W.Frag) (p : Str × Option Str) : FnI := match K.lookup (He.fAd K p) with
  | some ⟨_, _, .func fd, _⟩ => some (fd.name, fd.qualname, fd.params, fd.body, fd.scope, fd.globals, fd.closure.map (·.1), fd.builtins)
  | _ => none
/-- an error's __init__, as it is written -/
structure IniD where
  cls : Str
  st : Stmt
def IniD.at_ (d : IniD) : Str × Option Str := (d.cls, some "__init__")
def IniD.qual (d : IniD) : Str := d.cls ++ ".__init__"
def IniD.val (d : IniD) : FnI := some ("__init__", d.qual, defArgs d.st, .stmts (defBody d.st), defScope d.st, mainGlobals, ["__class__"], builtinsNs)
abbrev AlI : Type := AlX × List FnI
section
variable {n : Nat} {fa : List Fa} {fn : List DefD} {tf : List Defn} {ex : PySem.W.Frag → Bool} {ins : List IniD}
def obsI (n : Nat) (fa : List Fa) (fn : List DefD) (tf : List Defn) (ex : PySem.W.Frag → Bool) (ins : List IniD) (g : Addr → Option Obj) : AlI :=
  ((He.obsT fa fn [] (He.frT g (asI g n)), ex (He.frT g (asI g n)) && He.tabsB g tf (He.frT g (asI g n))), ins.map fun d => fnI (He.frT g (asI g n)) d.at_)
structure SaysI (fa : List Fa) (fn : List DefD) (tf : List Defn) (ex : PySem.W.Frag → Bool) (ins : List IniD) (w : World) (h : Heap) (K : PySem.W.Frag) : Prop where
  x : He.SaysX fa fn [] tf ex w h K
  ini : ∀ d ∈ ins, fnI K d.at_ = d.val
theorem saysI_of {w : World} {h : Heap} (e : obsI n fa fn tf ex ins h.get? = (He.valX fn [] w, ins.map IniD.val)) : SaysI fa fn tf ex ins w h (He.frT h.get? (asI h.get? n)) := by
  generalize hK : He.frT h.get? (asI h.get? n) = K at *
  have e1 : He.obsT fa fn [] K = He.valT fn [] w := by
    have z := congrArg (fun z : AlI => z.1.1) e
    unfold obsI at z
    rw [hK] at z
    exact z
  have e2 : (ex K && He.tabsB h.get? tf K) = true := by
    have z := congrArg (fun z : AlI => z.1.2) e
    unfold obsI at z
    rw [hK] at z
    exact z
  have e3 : (ins.map fun d => fnI K d.at_) = ins.map IniD.val := by
    have z := congrArg (fun z : AlI => z.2) e
    unfold obsI at z
    rw [hK] at z
    exact z
  obtain ⟨h1, h2⟩ := ba e2
  have tabs : ∀ p ∈ tf, PySem.W.codeHdIn K (He.cT K p).1 (He.cT K p).2 = true ∧ ∃ o, h.get? (He.cT K p).2 = some o ∧ He.emptyTab o = true := fun p hp => by
    obtain ⟨h3, h4⟩ := ba (List.all_eq_true.mp h2 p hp)
    match q : h.get? (He.cT K p).2 with
    | none =>
      rw [q] at h4
      cases h4
    | some o =>
      rw [q] at h4
      exact ⟨h3, o, rfl, h4⟩
  refine ⟨⟨e1, h1, fun p hp => (tabs p hp).1, fun p hp => ?_, fun p hp => ?_⟩, fun d hd => ?_⟩
  · obtain ⟨_, o, q, z⟩ := tabs p hp
    rw [← hK] at q ⊢
    exact He.frT_none q z
  · obtain ⟨_, o, q, z⟩ := tabs p hp
    rw [q, He.emptyTab_eq z]
  · exact List.map_inj_left.mp e3 d hd
def hookI (n : Nat) (fa : List Fa) (fn : List DefD) (tf : List Defn) (ex : PySem.W.Frag → Bool) (ins : List IniD) : PySem.W.Hook where
  α := AlI
  obs := fun s => obsI n fa fn tf ex ins s.heap.get?
  val := fun w => (He.valX fn [] w, ins.map IniD.val)
  says := fun w h => ∃ K : PySem.W.Frag, K.In h ∧ SaysI fa fn tf ex ins w h K
  of := fun _ _ e => ⟨_, He.frT_in, saysI_of e⟩
  keeps := fun _ _ _ ⟨K, hK, c⟩ k => ⟨K, PySem.W.Frag.In.keeps hK k, ⟨c.x.t, c.x.more, c.x.hd, c.x.out, fun p hp => k _ _ (c.x.empty p hp)⟩, c.ini⟩
theorem obsI_eq {g : Addr → Option Obj} {s : Shared} (h : ∀ a, g a = s.heap.get? a) : obsI n fa fn tf ex ins g = (hookI n fa fn tf ex ins).obs s := by
  have e : g = s.heap.get? := funext h
  rw [e] <;> rfl
end
end VG

set_option maxRecDepth 100000
/-! What the head is to tell of an own error, as a Bool. -/
namespace VG
open PySem PySem.Spec PyProof.Rows L2
def clsB (K : PySem.W.Frag) (C : Addr) (nm : Str) : Bool := match K.lookup C with
  | some ⟨.type t, _, .cls cd, sl⟩ => decide (t = "type") && (match cd.mro, sl.toList with
    | .ref C' :: bm, [_, _, some (.str z _), _, some (.builtin n), _] => decide (C' = C) && (decide (z = nm) && (decide (n = "ValueError.__new__") && (cd.hasDict && (!cd.hasDel && PySem.HandSPX.refsVE bm))))
    | _, _ => false)
  | _ => false
theorem clsB_ok {K : PySem.W.Frag} {C : Addr} {nm : Str} (h : clsB K C nm = true) : ∃ (name q : Str) (N : Addr) (bs bm : List Value) (sn : List Str) (sub : List Value) (ab : Bool) (col : Option Bool) (dd : Option Addr) (k0 k1 : Option Value) (tk : Tok) (k3 k5 : Option Value),
    K.lookup C = some (excClassObj name q C N bs bm true sn sub ab col dd k0 k1 (some (.str nm tk)) k3 k5 "ValueError.__new__") ∧ PySem.HandSPX.refsVE bm = true := by
  unfold clsB at h
  split at h
  · rename_i t dd cd sl e
    obtain ⟨h1, h2⟩ := Bool.and_eq_true_iff.mp h
    have ht : t = "type" := of_decide_eq_true h1
    split at h2
    · rename_i C' bm a0 a1 z tk a3 n a5 e1 e2
      simp only [Bool.and_eq_true, decide_eq_true_eq, Bool.not_eq_true'] at h2
      obtain ⟨g1, g2, g3, g4, g5, g6⟩ := h2
      subst ht g1 g2 g3
      obtain ⟨c1, c2, c3, c4, c5, c6, c7, c8, c9, c10, c11⟩ := cd
      have e1 : c3 = .ref C' :: bm := e1
      have g4 : c6 = true := g4
      have g5 : c11 = false := g5
      subst e1 g4 g5
      have es : sl = #[a0, a1, some (.str z tk), a3, some (.builtin "ValueError.__new__"), a5] := Array.toList_inj.mp e2
      subst es
      exact ⟨c1, c5, c4, c2, bm, c7, c8, c9, c10, dd, a0, a1, tk, a3, a5, e, g6⟩
    · cases h2
  · cases h
def nameB (K : PySem.W.Frag) (C : Addr) : Bool := match PySem.W.findCls K (.ref C) (.type "type") "__name__" with
  | some (.get g a o t) => decide (g = .builtin "getset_descriptor.__get__") && (decide (a = .builtin "type.__name__") && (decide (o = .ref C) && decide (t = .type "type")))
  | _ => false
theorem nameB_ok {K : PySem.W.Frag} {C : Addr} (h : nameB K C = true) : PySem.W.findCls K (.ref C) (.type "type") "__name__" = some (.get (.builtin "getset_descriptor.__get__") (.builtin "type.__name__") (.ref C) (.type "type")) := by
  unfold nameB at h
  split at h
  · rename_i g a o t e
    simp only [Bool.and_eq_true, decide_eq_true_eq] at h
    obtain ⟨h1, h2, h3, h4⟩ := h
    rw [e, h1, h2, h3, h4]
  · cases h
/-- an own error's class: all but its __init__ -/
def errB (K : PySem.W.Frag) (nm : Str) : Bool := clsB K (He.ga K nm) nm && (nameB K (He.ga K nm) && (ownXB K (He.ga K nm) && (decide (PySem.W.findIn K (.ref (He.ga K nm)) "__setattr__" = some (some (.builtin "object.__setattr__"))) && (decide (PySem.W.subIn K (.ref (He.ga K nm)) (.type "BaseException") = some true) &&
  (decide (PySem.W.typeIn K (.ref (He.ga K nm)) = some (.type "type")) && (PySem.W.keepIn K (.ref (He.ga K nm)) && (decide (PySem.W.findIn K (.ref (He.ga K nm)) "__class__" = some (some (.builtin "object.__class__"))) && (decide (PySem.W.specialIn K (.builtin "object.__class__") "__get__" = some (some (.builtin "getset_descriptor.__get__"))) &&
  (decide (PySem.W.takesIn K (.builtin "object.__class__") = some true) && (decide (PySem.W.mroIn K (He.ga K nm) (.type "object") = some true) && PySem.W.readsIn K (He.ga K nm) (.type "type")))))))))))
theorem errB_ok {K : PySem.W.Frag} {nm : Str} (h : errB K nm = true) : IniC K (He.ga K nm) nm := by
  unfold errB at h
  simp only [Bool.and_eq_true, decide_eq_true_eq] at h
  obtain ⟨h1, h2, h3, h4, h5, h6, h7, h8, h9, h10, h11, h12⟩ := h
  obtain ⟨name, q, N, bs, bm, sn, sub, ab, col, dd, k0, k1, tk, k3, k5, e, g⟩ := clsB_ok h1
  have o := ownX_of h3
  refine ⟨⟨⟨name, q, N, bs, bm, sn, sub, ab, col, dd, k0, k1, _, k3, k5, e, g⟩, h4, h5, h6, h7⟩, ⟨o.xf.ga, o.xf.gg, h5, ?_, h8, h9, h10, h11, h12, nameB_ok h2, h6, ⟨_, _, _, _, tk, e, rfl⟩⟩, o⟩
  unfold PySem.W.clsIn
  rw [e] <;> rfl
/-- its __init__ -/
def iniB (K : PySem.W.Frag) (nm file : Str) : Bool := decide (PySem.W.findIn K (.ref (He.ga K nm)) "__init__" = some (some (.ref (He.ma K (He.ga K nm) "__init__")))) && (decide (PySem.W.typeIn K (.ref (He.ma K (He.ga K nm) "__init__")) = some (.type "function")) &&
  (decide (PySem.W.ks_superIn K (He.ga K nm) (He.ga K nm) "__init__" = some (some (.builtin "ValueError.__init__"))) && (decide (PySem.W.subIn K (.ref (He.ga K nm)) (.type "ValueError") = some true) && (decide (PySem.W.mroIn K (He.ga K nm) (.ref (He.ga K nm)) = some true) &&
  (decide (PySem.W.nsIn K cStatics "thirdparty.any" = some none) && (match K.lookup (He.ma K (He.ga K nm) "__init__") with
    | some ⟨_, _, .func fd, _⟩ => (match fd.code, fd.closure with
      | .ref cda, [(_, cc)] => decide (fd.defaults = .none) && (PySem.W.codeIn K (.ref cda) (nm ++ ".__init__") && ((match K.lookup cda with
          | some ⟨_, _, .fields vs, _⟩ => (match (vs[2]? : Option Value) with
            | some (.str z _) => decide (z = file)
            | _ => false)
          | _ => false) && (match K.lookup cc with
          | some ⟨_, _, .cell (some (.ref C')), _⟩ => decide (C' = He.ga K nm)
          | _ => false)))
      | _, _ => false)
    | _ => false))))))
structure IniOk (K : PySem.W.Frag) (nm file : Str) : Prop where
  find : PySem.W.findIn K (.ref (He.ga K nm)) "__init__" = some (some (.ref (He.ma K (He.ga K nm) "__init__")))
  typ : PySem.W.typeIn K (.ref (He.ma K (He.ga K nm) "__init__")) = some (.type "function")
  up : PySem.W.ks_superIn K (He.ga K nm) (He.ga K nm) "__init__" = some (some (.builtin "ValueError.__init__"))
  isB : PySem.W.subIn K (.ref (He.ga K nm)) (.type "ValueError") = some true
  self : PySem.W.mroIn K (He.ga K nm) (.ref (He.ga K nm)) = some true
  opq : PySem.W.nsIn K cStatics "thirdparty.any" = some none
  fn : ∃ (oc : Value) (od : Option Addr) (fd : FuncData) (osl : Array (Option Value)) (cda cc : Addr) (x : Str), K.lookup (He.ma K (He.ga K nm) "__init__") = some ⟨oc, od, .func fd, osl⟩ ∧ fd.code = .ref cda ∧ fd.closure = [(x, cc)] ∧ fd.defaults = .none ∧
    PySem.W.codeIn K (.ref cda) (nm ++ ".__init__") = true ∧ (∃ ccl cdd vs ccs tf, K.lookup cda = some ⟨ccl, cdd, .fields vs, ccs⟩ ∧ vs[2]? = some (.str file tf)) ∧ ∃ cl cld csl, K.lookup cc = some ⟨cl, cld, .cell (some (.ref (He.ga K nm))), csl⟩
theorem iniB_ok {K : PySem.W.Frag} {nm file : Str} (h : iniB K nm file = true) : IniOk K nm file := by
  unfold iniB at h
  simp only [Bool.and_eq_true, decide_eq_true_eq] at h
  obtain ⟨h1, h2, h3, h4, h5, h6, h7⟩ := h
  refine ⟨h1, h2, h3, h4, h5, h6, ?_⟩
  split at h7
  · rename_i oc od fd osl e
    split at h7
    · rename_i cda x cc e1 e2
      simp only [Bool.and_eq_true, decide_eq_true_eq] at h7
      obtain ⟨g1, g2, g3, g4⟩ := h7
      refine ⟨oc, od, fd, osl, cda, cc, x, e, e1, e2, g1, g2, ?_, ?_⟩
      · split at g3
        · rename_i ccl cdd vs ccs ec
          split at g3
          · rename_i z tf ez
            rw [of_decide_eq_true g3] at ez
            exact ⟨ccl, cdd, vs, ccs, tf, ec, ez⟩
          · cases g3
        · cases g3
      · split at g4
        · rename_i cl cld C' csl ec
          rw [of_decide_eq_true g4] at ec
          exact ⟨cl, cld, csl, ec⟩
        · cases g4
    · cases h7
  · cases h7
end VG

set_option maxRecDepth 100000
/-! From the head's facts of an own error to its promise. -/
namespace VG
open PySem PySem.Spec PyProof.Rows L2
section
variable {P : Program} {w : World} {K : PySem.W.Frag} {mg : Str → Option Value} {base : Heap}
theorem errC_of {nm : Str} {flds ps : List Str} {st : Stmt} {rest : List Stmt} {p0 p1 p2 p3 p4 p5 : Pos} {j k n : Nat} {z : Str} {self : Arg} {fC : Addr} {fdC : FuncData} (ini : fnI K (IniD.at_ ⟨nm, st⟩) = IniD.val ⟨nm, st⟩) (I : IniOk K nm P.main.file) (E : IniC K (He.ga K nm) nm) (glob : mg nm = some (.ref (He.ga K nm)))
    (hev : SupEv p0 p1 p2 p3 p4 j z) (hb : defBody st = superInit p0 p1 p2 p3 p4 p5 j z :: rest) (S : IniScope ps (defScope st)) (hself : ((defArgs st).posonlyargs ++ (defArgs st).args).head? = some self) (hp0 : ps[0]? = some self.arg)
    (GC : FnOk P w K mg base CX0 k fC fdC ["value"] (spCopy K n)) (hg : (defScope st).names.lookup ("copied" : Str) = some .globalImplicit) (mC : mg "copied" = some (.ref fC)) (hk : PySem.W.keepIn K (.ref fC) = true) (bC : L2.Binds K fdC ["value"] [])
    (hps : ∀ x ∈ ps, (x == ("__debug__" : Str)) = false ∧ (x == ("__classdict__" : Str)) = false) (hf : ∀ f ∈ flds, f ∈ exFields) (few : flds.length ≤ 100) (hl : ps.length = flds.length + 1) (hs : IniSts ps (slots 1 flds) rest) (sup : mg "super" = none) (top : (P.main.scope.names.lookup ("super" : Str)).isSome = false)
    (binds : ∀ (q : Str) (kV doc pm cdv ct : Value) (an : Option Addr) (cc : Addr) (us : List Value), us.length = ps.length → bindArgs (PySem.W.ksFn "__init__" q (defArgs st) (defBody st) (defScope st) .none kV doc pm an cdv ct cc) ⟨us, []⟩ = pure (ps.zip us)) :
    ErrC P w K mg base nm flds (He.ga K nm) (k + 1) n := by
  obtain ⟨oc, od, fd, osl, cda, cc, x, e, e1, e2, e3, g2, g3, g4⟩ := I.fn
  have e0 : K.lookup (He.fAd K (IniD.at_ ⟨nm, st⟩)) = some ⟨oc, od, .func fd, osl⟩ := e
  unfold fnI at ini
  rw [e0] at ini
  obtain ⟨f1, f2, f3, f4, f5, f6, f7, f8, f9, f10, f11, f12, f13, f14, f15⟩ := fd
  have ini : (some (f1, f2, f3, f4, f5, f6, f7.map (·.1), f15) : FnI) = (some (("__init__" : Str), IniD.qual ⟨nm, st⟩, defArgs st, FuncBody.stmts (defBody st), defScope st, mainGlobals, [("__class__" : Str)], builtinsNs) : FnI) := ini
  simp only [Option.some.injEq, Prod.mk.injEq] at ini
  obtain ⟨rfl, rfl, rfl, rfl, rfl, rfl, ec, rfl⟩ := ini
  have e1 : f13 = .ref cda := e1
  have e2 : f7 = [(x, cc)] := e2
  have e3 : f8 = .none := e3
  subst e1 e2 e3
  have ex : x = "__class__" := by
    have z := List.cons.inj ec
    exact z.1
  subst ex
  obtain ⟨name, q, N, bs, bm, sn, sub, ab, col, dd, k0, k1, k2, k3, k5, lC, hbm⟩ := E.oex.cls
  have T : IniTxt P K mg "ValueError" "ValueError.__init__" "ValueError.__new__" PySem.HandSPX.veTail (He.ga K nm) (He.ma K (He.ga K nm) "__init__") cc cda (IniD.qual ⟨nm, st⟩) (defArgs st) (superInit p0 p1 p2 p3 p4 p5 j z :: rest) (defScope st)
      (PySem.W.ksFn "__init__" (IniD.qual ⟨nm, st⟩) (defArgs st) (defBody st) (defScope st) .none f9 f10 f11 f12 (.ref cda) f14 cc) := by
    refine ⟨PySem.W.kxs_ValueError, F.excBase_ValueError, ⟨oc, od, .none, f9, f10, f11, f12, f14, osl, by rw [hb], e⟩, g2, g3, g4, ⟨name, q, N, bs, bm, true, sn, sub, ab, col, dd, k0, k1, k2, k3, k5, lC⟩, I.up, I.isB, I.self, I.opq, sup, top⟩
  have ok := ok_ini (n := n) (nm := nm) (l := slots 1 flds) hev T S hself hp0 E GC hg mC hk bC hps (fun p hp => ?_) hs
  · rw [hl] at ok
    exact ⟨E, glob, few, _, _, ps, I.find, I.typ, .all (fun us hus => binds _ _ _ _ _ _ _ _ us hus), ok⟩
  · have key : ∀ (l : List Str) (i : Nat), (∀ f ∈ l, f ∈ exFields) → ∀ p ∈ slots i l, p.1 ∈ exFields := by
      intro l
      induction l with
      | nil => intro i _ p hp; cases hp
      | cons f l ih =>
        intro i h p hp
        rcases List.mem_cons.mp hp with e | hp
        · rw [e]
          exact h f List.mem_cons_self
        · exact ih (i + 1) (fun g hg => h g (List.mem_cons_of_mem _ hg)) p hp
    exact key flds 1 hf p hp
end
end VG

set_option maxRecDepth 100000
/-! Instances of own classes: ==, != by an own __eq__, repr, len, truth by own methods. -/
namespace VG
open PySem PySem.Spec PyProof.Rows L2
theorem FnOk.toR {P : Program} {w : World} {K : PySem.W.Frag} {mg : Str → Option Value} {base : Heap} {CX : CXT} {k : Nat} {f : Addr} {fd : FuncData} {ps : List Str} {sp : Sp} (F : L2.FnOk P w K mg base CX k f fd ps sp) (hb : L2.Binds K fd ps []) : FnR P w K mg base CX k f sp := by
  intro A outer s H us vs Q E hr e0 r h
  have hl := F.len _ _ _ _ h
  have hk : K.In s.heap := e0.mod.kin.keeps fun b o e => (e0.bs b o e).1
  refine F.run A outer s H ⟨us, []⟩ us vs Q E hr e0 ?_ r h
  have z := hb s us hk (by rw [List.append_nil, ← r.length, hl])
  rw [List.append_nil] at z
  exact z
/-- data stand where an object that is no sequence changes -/
theorem Dp.offI {K : PySem.W.Frag} {H : Hp} {p C dx : Addr} {fs : List (Str × V)} {o : HO} {d : PyData} {v : V} (hp : H p = some (.ins C dx fs)) (h : Dp K H v d) : Dp K (upd H p o) v d :=
  Dp.same (fun b u z => by
    have n : b ≠ p := fun e => by
      rw [e] at z
      have y := (seqs_sub z).1
      unfold VG.seqs at z
      rw [hp] at z
      cases z
    rw [upd_ne n]
    exact (seqs_sub z).1) d v (Dp.seqs d v h)
section
variable {X : Cx} {CX : CXT} {pins : List (Addr × Obj)} {σ : L2.St} {H : Hp} {s : Shared} {a C dx g : Addr} {fs : List (Str × V)} {n : Nat} {sp : Sp} {E : XK}
theorem ins_inst (I : Inv X pins σ H s) (e : H a = some (.ins C dx fs)) : ∃ od, PySem.W.InstAt s.heap a (PySem.W.instObj C dx) C (some od) := by
  obtain ⟨mA, J, _⟩ := ins_get I.hok e
  obtain ⟨od, J, _⟩ := J.look
  exact ⟨od, J⟩
/-- x == y, x an instance of C, whose __eq__ stands at g; y any value -/
def rEqO (K : PySem.W.Frag) (C : Addr) (sp : Sp) (E : XK) : R2 := fun x y H Q => ∃ a dx fs t, x = .ref a ∧ H a = some (.ins C dx fs) ∧ TyX K H y t ∧ PySem.W.notFirst K C t = true ∧ sp [x, y] H Q E
theorem op_eqO (hs : PySem.W.findIn X.K (.ref C) "__eq__" = some (some (.ref g))) (hf : PySem.W.isFn X.K (.ref g) = true) (F : FnR X.prog X.w X.K X.mg X.base CX n g sp) (hr : Room n X.A) (hx : Passes CX X E) : OpR X (compareOp .Eq) (rEqO X.K C sp E) := by
  intro pins s σ H x y v u Q I rx ry h
  obtain ⟨a, dx, fs, t, rfl, ha, ty, hn, q⟩ := h
  cases (show v = Value.ref a from rx)
  obtain ⟨od, J⟩ := ins_inst I ha
  obtain ⟨P, kx, kp, _⟩ := kit_of I ry ty
  obtain ⟨m, hF⟩ := I.fr
  show wpAny _ _ (richCompare .Eq (.ref a) u) _ _ _
  refine PySem.W.cmp_K (op := .Eq) hr.units0 hF I.ok.mod.kin J (kx.ty _ _ I.kIn kp) hn hs hf ?_
  refine wpAny_mono (wpAny_call (run_fnR (us := [.ref a, u]) (vs := [.ref a, y]) F hr hx I (.cons rfl (.cons ry .nil)) q)) (fun w s' z => ?_) fun _ _ x => x
  obtain ⟨z', H', I', rz, qz⟩ := z
  exact SlX.cmpback rz ⟨z', H', I', rz, qz⟩
/-- repr(x), x an instance of C, whose __repr__ stands at g -/
def rReprO (C : Addr) (sp : Sp) (E : XK) : List V → Hp → VK → Prop := fun xs H Q => ∃ a dx fs, xs = [.ref a] ∧ H a = some (.ins C dx fs) ∧ sp xs H (fun v H' => (∃ z, v = .str z) ∧ Q v H') E
theorem call_reprO (hs : PySem.W.findIn X.K (.ref C) "__repr__" = some (some (.ref g))) (hf : PySem.W.isFn X.K (.ref g) = true) (F : FnR X.prog X.w X.K X.mg X.base CX n g sp) (hr : Room (n + 1) X.A) (hx : Passes CX X E) : CallR X (.builtin "repr") (rReprO C sp E) := by
  intro pins s σ H xs us Q I r h
  obtain ⟨a, dx, fs, rfl, ha, q⟩ := h
  obtain ⟨u, rfl, ru⟩ := vals1 r
  cases (show u = Value.ref a from ru)
  obtain ⟨od, J⟩ := ins_inst I ha
  obtain ⟨m, hF⟩ := I.fr
  have hr1 : Room n X.A.in1 := Room.in1 hr
  refine PySem.W.repr_K hr1.units0 hF I.ok.mod.kin J hs hf (wpAny_mono (wpAny_call (SlX.run_at (us := [.ref a]) (ws := [.ref a]) F hr1 I.env0.in1 hx I (.cons rfl .nil) q)) (fun v s' z => ?_) fun _ _ x => x)
  obtain ⟨z', H', I', rz, ⟨y, rfl⟩, qz⟩ := z
  obtain ⟨t, e⟩ := (show ∃ t, v = Value.str y t from rz)
  cases e
  exact ⟨.str y, H', I', ⟨t, rfl⟩, qz⟩
/-- what != by an own __eq__ asks of the class -/
structure NeK (K : PySem.W.Frag) (C g : Addr) : Prop where
  ex : ∃ (of : Obj) (nm q : Str) (N : Addr) (bs : List Value) (hdct : Bool) (sn : List Str) (sub : List Value) (ab : Bool) (col : Option Bool) (dd : Option Addr) (k0 k1 k2 k3 k5 : Option Value) (newId : String) (oc : Value) (od : Option Addr) (es : Array DictEntry) (ep : Nat) (sl : Array (Option Value)),
    K.lookup C = some (excClassObj nm q C N bs [.type "object"] hdct sn sub ab col dd k0 k1 k2 k3 k5 newId) ∧ K.lookup N = some ⟨oc, od, .dict es ep, sl⟩ ∧ StrKeys es ∧ nsFind es "__eq__" = some (.ref g) ∧ nsFind es "__ne__" = none ∧ K.lookup g = some of ∧ of.cls = .type "function"
theorem NeK.own {K : PySem.W.Frag} {C g a dx : Addr} {h : Heap} (N : NeK K C g) (X : K.In h) (e : h.get? a = some (PySem.W.instObj C dx)) : h.OwnEqNoNe a C g "object" [.type "object"] := by
  obtain ⟨of, nm, q, Na, bs, hdct, sn, sub, ab, col, dd, k0, k1, k2, k3, k5, newId, oc, od, es, ep, sl, h1, h2, h3, h4, h5, h6, h7⟩ := N.ex
  exact ⟨_, of, nm, q, Na, bs, hdct, sn, sub, ab, col, dd, k0, k1, k2, k3, k5, newId, nsFind es, _, e, rfl, X _ _ h1, ⟨_, es, ep, X _ _ h2, rfl, h3, fun _ => rfl⟩, h4, X _ _ h6, h7, PySem.F.cmp_object.mro, PySem.F.cmp_object.eq.lookup, h5⟩
/-- x != y, both instances of C -/
def rNeO (C : Addr) (sp : Sp) (E : XK) : R2 := fun x y H Q => ∃ a dx fs b dy gs, x = .ref a ∧ y = .ref b ∧ H a = some (.ins C dx fs) ∧ H b = some (.ins C dy gs) ∧ sp [x, y] H (fun v H' => ∃ c, v = .bl c ∧ Q (.bl (!c)) H') E
theorem op_neO (N : NeK X.K C g) (F : FnR X.prog X.w X.K X.mg X.base CX n g sp) (hr : Room (n + 1) X.A) (hx : Passes CX X E) : OpR X (compareOp .NotEq) (rNeO C sp E) := by
  intro pins s σ H x y v u Q I rx ry h
  obtain ⟨a, dx, fs, b, dy, gs, rfl, rfl, ha, hb, q⟩ := h
  cases (show v = Value.ref a from rx)
  cases (show u = Value.ref b from ry)
  obtain ⟨mA, J, _⟩ := ins_get I.hok ha
  obtain ⟨mB, J', _⟩ := ins_get I.hok hb
  have hr1 : Room n X.A.in1 := Room.in1 hr
  have hu : X.A.units + 1 < cLine := hu_of hr
  have O := N.own I.kIn J.obj
  obtain ⟨hp, gg, d, tk, os⟩ := s
  refine compareOp_ne_ownEq PySem.F.cmp_object O J'.obj rfl hu (wpAny_mono (wpAny_call (SlX.run_at (us := [.ref a, .ref b]) (ws := [.ref a, .ref b]) F hr1 I.env0.in1 hx I (.cons rfl (.cons rfl .nil)) q)) (fun v s' z => ?_) fun _ _ x => x)
  obtain ⟨z', H', I', rz, ⟨c, rfl, qz⟩⟩ := z
  cases (show v = Value.bool c from rz)
  exact ⟨c, rfl, .bl (!c), H', I', rfl, qz⟩
end
end VG

set_option maxRecDepth 100000
/-! What the head is to tell of an own class with an __eq__, as a Bool. -/
namespace VG
open PySem PySem.Spec PyProof.Rows L2
def strKeysB (es : Array DictEntry) : Bool := es.toList.all fun e => match e.key with
  | .str _ _ => true
  | _ => false
theorem strKeysB_ok {es : Array DictEntry} (h : strKeysB es = true) : StrKeys es := fun e he => by
  have z := List.all_eq_true.mp h e (Array.mem_toList_iff.mpr he)
  split at z
  · rename_i n t q
    exact ⟨n, t, q⟩
  · cases z
def neB (K : PySem.W.Frag) (C g : Addr) : Bool := (match K.lookup C with
  | some ⟨.type t, _, .cls cd, sl⟩ => decide (t = "type") && (match cd.mro, sl.toList with
    | [.ref C', .type o], [_, _, _, _, some (.builtin _), _] => decide (C' = C) && (decide (o = "object") && (!cd.hasDel && (match K.lookup cd.ns with
      | some ⟨_, _, .dict es _, _⟩ => strKeysB es && (decide (nsFind es "__eq__" = some (.ref g)) && decide (nsFind es "__ne__" = none))
      | _ => false)))
    | _, _ => false)
  | _ => false) && (match K.lookup g with
  | some ⟨.type t, _, _, _⟩ => decide (t = "function")
  | _ => false)
theorem neB_ok {K : PySem.W.Frag} {C g : Addr} (h : neB K C g = true) : NeK K C g := by
  unfold neB at h
  obtain ⟨h, hg⟩ := Bool.and_eq_true_iff.mp h
  split at hg
  · rename_i tg og dg sg eg
    have htg : tg = "function" := of_decide_eq_true hg
    subst htg
    split at h
    · rename_i t dd cd sl e
      obtain ⟨h1, h2⟩ := Bool.and_eq_true_iff.mp h
      have ht : t = "type" := of_decide_eq_true h1
      split at h2
      · rename_i C' o a0 a1 a2 a3 n a5 e1 e2
        simp only [Bool.and_eq_true, decide_eq_true_eq, Bool.not_eq_true'] at h2
        obtain ⟨g1, g2, g3, g4⟩ := h2
        split at g4
        · rename_i oc od es ep sl2 e3
          simp only [Bool.and_eq_true, decide_eq_true_eq] at g4
          obtain ⟨q1, q2, q3⟩ := g4
          subst ht g1 g2
          obtain ⟨c1, c2, c3, c4, c5, c6, c7, c8, c9, c10, c11⟩ := cd
          have e1 : c3 = [.ref C', .type "object"] := e1
          have g3 : c11 = false := g3
          subst e1 g3
          have es' : sl = #[a0, a1, a2, a3, some (.builtin n), a5] := Array.toList_inj.mp e2
          subst es'
          exact ⟨_, c1, c5, c4, c2, c6, c7, c8, c9, c10, dd, a0, a1, a2, a3, a5, n, oc, od, es, ep, sl2, e, e3, strKeysB_ok q1, q2, q3, eg, rfl⟩
        · cases g4
      · cases h2
    · cases h
  · cases hg
/-- isinstance of its instances -/
def insB (K : PySem.W.Frag) (C : Addr) : Bool := decide (PySem.W.findIn K (.ref C) "__class__" = some (some (.builtin "object.__class__"))) && (decide (PySem.W.specialIn K (.builtin "object.__class__") "__get__" = some (some (.builtin "getset_descriptor.__get__"))) &&
  (decide (PySem.W.takesIn K (.builtin "object.__class__") = some true) && (decide (PySem.W.mroIn K C (.type "object") = some true) && decide (PySem.W.kitOne K (.ref C) (.ref C) = some true))))
theorem insB_ok {K : PySem.W.Frag} {C : Addr} (h : insB K C = true) : PySem.W.findIn K (.ref C) "__class__" = some (some (.builtin "object.__class__")) ∧ PySem.W.specialIn K (.builtin "object.__class__") "__get__" = some (some (.builtin "getset_descriptor.__get__")) ∧
    PySem.W.takesIn K (.builtin "object.__class__") = some true ∧ PySem.W.mroIn K C (.type "object") = some true ∧ PySem.W.kitOne K (.ref C) (.ref C) = some true := by
  unfold insB at h
  simp only [Bool.and_eq_true, decide_eq_true_eq] at h
  exact h
end VG

set_option maxRecDepth 100000
/-! Statements that are not reached; comprehensions within comprehensions; heaps without some objects; lists that grow; methods called with keywords. -/
namespace VG
open PySem PySem.Spec PyProof.Rows L2
theorem ps_false {X : Cx} {st : Stmt} : PS X st (fun _ _ _ => False) := ⟨fun _ _ _ _ _ _ h => h.elim⟩
theorem pss_false {X : Cx} {st : List Stmt} : PSs X st (fun _ _ _ => False) := ⟨fun _ _ _ _ _ _ h => h.elim⟩
/-! ### scopes of comprehensions within comprehensions -/
def retE (st : Stmt) : Expr := match (defBody st).getLast? with
  | some (.Return (some e) _) => e
  | _ => .List [] ⟨0, 0, 0, 0⟩
def lcScope (d : Scope) : Expr → Scope
  | .ListComp _ _ sc _ => sc
  | _ => d
def lcElt : Expr → Expr
  | .ListComp e _ _ _ => e
  | e => e
theorem blkOk_in {N : List Str} {sc sc' scope : Scope} {own : List (Str × Nat)} (e : sc' = sc) (h : blkC N sc scope own = true) : BlkOk N sc' scope own := by
  subst e
  exact blkOk_by h
/-! ### heaps without some objects -/
def wos (S : List Addr) (G : Hp) : Hp := fun b => if b ∈ S then none else G b
theorem wos_in {S : List Addr} {G : Hp} {b : Addr} (h : b ∈ S) : wos S G b = none := if_pos h
theorem wos_out {S : List Addr} {G : Hp} {b : Addr} (h : b ∉ S) : wos S G b = G b := if_neg h
theorem wos_mono {S S' : List Addr} {G G' : Hp} (s : ∀ b ∈ S', b ∈ S) (e : Same G G') : Same (wos S G) (wos S' G') := fun b o h => by
  by_cases z : b ∈ S
  · rw [wos_in z] at h
    cases h
  · rw [wos_out z] at h
    rw [wos_out fun y => z (s b y)]
    exact e b o h
theorem wos_sub {S : List Addr} {G : Hp} : Same (wos S G) G := fun b o h => by
  by_cases z : b ∈ S
  · rw [wos_in z] at h
    cases h
  · rw [wos_out z] at h
    exact h
theorem wos_less {S S' : List Addr} {G : Hp} (s : ∀ b ∈ S', b ∈ S) : Same (wos S G) (wos S' G) := wos_mono s (Same.refl G)
theorem wos_upd {S : List Addr} {G : Hp} {T : Addr} {o : HO} (h : T ∈ S) : wos S (upd G T o) = wos S G := by
  funext b
  by_cases z : b ∈ S
  · rw [wos_in z, wos_in z]
  · rw [wos_out z, wos_out z, upd_ne fun y => z (by rw [y]; exact h)]
/-- all that is not in S stays -/
abbrev Exs (S : List Addr) (H H' : Hp) : Prop := Same (wos S H) (wos S H')
theorem Exs.of {S : List Addr} {G G' : Hp} (e : Same G G') : Exs S G G' := wos_mono (fun _ h => h) e
theorem Exs.but {S : List Addr} {p : Addr} {G G' : Hp} (h : p ∈ S) (e : ∀ b, b ≠ p → G' b = G b) : Exs S G G' := fun b o z => by
  by_cases y : b ∈ S
  · rw [wos_in y] at z
    cases z
  · rw [wos_out y] at z ⊢
    exact (e b fun x => y (x ▸ h)).trans z
theorem Exs.upd {S : List Addr} {G : Hp} {T : Addr} {o : HO} (h : T ∈ S) : Exs S G (upd G T o) := by
  intro b u z
  rw [wos_upd h]
  exact z
theorem Exs.on {S : List Addr} {G G' : Hp} {b : Addr} {o : HO} (e : Exs S G G') (h : b ∉ S) (z : G b = some o) : G' b = some o := by
  have y := e b o (by rw [wos_out h]; exact z)
  rw [wos_out h] at y
  exact y
theorem Exs.mono {S S' : List Addr} {G G' : Hp} (s : ∀ b ∈ S, b ∈ S') (e : Exs S G G') : Exs S' G G' := fun b o z => by
  by_cases y : b ∈ S'
  · rw [wos_in y] at z
    cases z
  · rw [wos_out y] at z ⊢
    exact e.on (fun x => y (s b x)) z
/-- a list that grows at D: what is in it so far stands without D and S -/
structure Acc (K : PySem.W.Frag) (S : List Addr) (D : Addr) (H : Hp) (ds : List PyData) : Prop where
  ex : ∃ acc, H D = some (.lst acc) ∧ DpAll K (wos (D :: S) H) acc ds
theorem Acc.start {K : PySem.W.Frag} {S : List Addr} {D : Addr} {H : Hp} : Acc K S D (upd H D (.lst [])) [] := ⟨⟨[], upd_same, .nil⟩⟩
theorem Acc.on {K : PySem.W.Frag} {S : List Addr} {D : Addr} {H H2 : Hp} {ds : List PyData} (c : Acc K S D H ds) (e : Exs (D :: S) H H2) (hD : ∀ o, H D = some o → H2 D = some o) : Acc K S D H2 ds := by
  obtain ⟨acc, h1, h2⟩ := c.ex
  exact ⟨⟨acc, hD _ h1, DpAll.same e _ _ h2⟩⟩
theorem Acc.more {K : PySem.W.Frag} {S : List Addr} {D : Addr} {H : Hp} {ds : List PyData} {d : PyData} {y : V} (c : Acc K S D H ds) (hy : Dp K (wos (D :: S) H) y d) :
    ∃ acc, H D = some (.lst acc) ∧ acc.length = ds.length ∧ Acc K S D (upd H D (.lst (acc ++ [y]))) (ds ++ [d]) := by
  obtain ⟨acc, h1, h2⟩ := c.ex
  refine ⟨acc, h1, DpAll.len h2, ⟨⟨_, upd_same, ?_⟩⟩⟩
  rw [wos_upd List.mem_cons_self]
  exact VG.DpAll.snoc hy h2
theorem Acc.done {K : PySem.W.Frag} {S : List Addr} {D : Addr} {H : Hp} {ds : List PyData} (c : Acc K S D H ds) (h : D ∉ S) : Dp K (wos S H) (.ref D) (.list ds) := by
  obtain ⟨acc, h1, h2⟩ := c.ex
  exact .lst (SqL.of (by rw [wos_out h]; exact h1)) (DpAll.same (wos_less fun b z => List.mem_cons_of_mem _ z) _ _ h2)
/-- what a list of data is -/
theorem dp_list {K : PySem.W.Frag} {H : Hp} {v : V} {ds : List PyData} (h : Dp K H v (.list ds)) : ∃ a xs, v = .ref a ∧ SqL K H a xs ∧ DpAll K H xs ds := by
  cases h with
  | lst a b => exact ⟨_, _, rfl, a, b⟩
theorem dp_tup {K : PySem.W.Frag} {H : Hp} {v : V} {ds : List PyData} (h : Dp K H v (.tuple ds)) : ∃ a xs, v = .ref a ∧ SqT K H a xs ∧ DpAll K H xs ds := by
  cases h with
  | tup a b => exact ⟨_, _, rfl, a, b⟩
theorem dp_int {K : PySem.W.Frag} {H : Hp} {v : V} {i : Int} (h : Dp K H v (.int i)) : v = .int i := by
  cases h
  rfl
theorem dp_bl {K : PySem.W.Frag} {H : Hp} {v : V} {i : Bool} (h : Dp K H v (.bool i)) : v = .bl i := by
  cases h
  rfl
theorem dpAll2 {K : PySem.W.Frag} {H : Hp} {xs : List V} {a b : PyData} (h : DpAll K H xs [a, b]) : ∃ x y, xs = [x, y] ∧ Dp K H x a ∧ Dp K H y b := by
  cases h with
  | cons h t =>
    cases t with
    | cons h' t =>
      cases t
      exact ⟨_, _, rfl, h, h'⟩
theorem dpAll3 {K : PySem.W.Frag} {H : Hp} {xs : List V} {a b c : PyData} (h : DpAll K H xs [a, b, c]) : ∃ x y z, xs = [x, y, z] ∧ Dp K H x a ∧ Dp K H y b ∧ Dp K H z c := by
  cases h with
  | cons h t =>
    obtain ⟨y, z, rfl, h2, h3⟩ := dpAll2 t
    exact ⟨_, _, _, rfl, h, h2, h3⟩
theorem DpAll.app {K : PySem.W.Frag} {H : Hp} : ∀ {xs ys : List V} {ds es : List PyData}, DpAll K H xs ds → DpAll K H ys es → DpAll K H (xs ++ ys) (ds ++ es)
  | _, _, _, _, .nil, h => h
  | _, _, _, _, .cons a t, h => .cons a (DpAll.app t h)
theorem DpAll.dropn {K : PySem.W.Frag} {H : Hp} : ∀ (n : Nat) {xs : List V} {ds : List PyData}, DpAll K H xs ds → DpAll K H (xs.drop n) (ds.drop n)
  | 0, _, _, h => h
  | n + 1, _, _, .nil => .nil
  | n + 1, _, _, .cons _ t => DpAll.dropn n t
theorem DpAll.takn {K : PySem.W.Frag} {H : Hp} : ∀ (n : Nat) {xs : List V} {ds : List PyData}, DpAll K H xs ds → DpAll K H (xs.take n) (ds.take n)
  | 0, _, _, _ => .nil
  | n + 1, _, _, .nil => .nil
  | n + 1, _, _, .cons a t => .cons a (DpAll.takn n t)
/-! ### methods called with keywords -/
/-- o.m(e, .., k = v, ..) -/
def tMethN (C : Addr) (m : Str) (n j : Nat) (sp : Sp) (gV : List V → List V → List V) (E : XK) (ta : TE) (t tk : TA) : TE := fun σ H Q => ta σ H fun x H1 => ∃ a dx fs, x = .ref a ∧ H1 a = some (.ins C dx fs) ∧ fs.lookup m = none ∧
  t σ H1 fun vs H2 => tk σ H2 fun zs H3 => vs.length = n ∧ zs.length = j ∧ sp (gV (x :: vs) zs) H3 Q E
section
variable {X : Cx} {CX : CXT} {k n : Nat} {C f : Addr} {m : Str} {fd : FuncData} {ps ks : List Str} {sp : Sp} {E : XK} {o e : Expr} {es : List Expr} {apos pos : Pos} {kws : List Keyword} {ta : TE} {t tk : TA} {g : List Value → List Value → List Value} {gV : List V → List V → List V}
theorem pe_methN {pl : Sem Bool} (he : PE X o ta) (c : Cls X.K C) (hm : Meth X.K C m f) (F : FnOk X.prog X.w X.K X.mg X.base CX k f fd ps sp) (hr : Room k X.A) (hb : KBn X.K fd ps (n + 1) ks g gV) (hx : Passes CX X E) (ha : PA X (e :: es) t) (hkw : PK X kws tk)
    (hall : (backToKw pos (keywordEach kws X.env)).all (·.1.isSome) = true := by rfl) (hks : (backToKw pos (keywordEach kws X.env)).filterMap (·.1) = ks := by rfl)
    (hst : starEach (e :: es) X.env = (false, eval e X.env) :: starEach es X.env := by rfl) (hpl : ((backTo pos (starEach (e :: es) X.env)).any (·.1) || (backToKw pos (keywordEach kws X.env)).any (·.1.isNone)) = false := by rfl)
    (ht : eval (.Call (.Attribute o m apos) (e :: es) kws pos) X.env = (do
      let ov ← eval o X.env
      standAt apos.atName
      let (f, first) ← holding [ov] (getMethod ov m pl)
      callWith pos f first (backTo pos (starEach (e :: es) X.env)) (backToKw pos (keywordEach kws X.env))) := by rfl) :
    PE X (.Call (.Attribute o m apos) (e :: es) kws pos) (tMethN C m n ks.length sp gV E ta t tk) := by
  refine ⟨fun pins s σ H Q I h => ?_⟩
  refine PySem.W.methodCall_KW (pl := pl) (thn (he.run pins s σ H _ I h) fun u s1 ⟨x, H1, I1, rx, a, dx, fs, ex, ea, l, q⟩ => ?_) ht
  subst ex
  obtain rfl : u = Value.ref a := rx
  refine getmeth_ok I1 ea c hm l ?_
  refine PySem.W.callWith_KW (first := [.ref a]) (h₀ := X.base) I.ok.mod.kin hm.kp hall (thn (ha.run pos pins s1 σ H1 _ I1 q) fun us s2 ⟨vs, H2, I2, r, q2⟩ => ?_) hpl hst
  refine thn (hkw.run pos pins s2 σ H2 _ I2 q2) fun ws s3 ⟨zs, H3, I3, rz, l1, l2, q3⟩ => ⟨I3.kIn, ?_⟩
  rw [hks]
  exact run_fnN (us := .ref a :: us) (vs := .ref a :: vs) F hr hb hx I3 (.cons rfl r) rz (by rw [List.length_cons, l1]) l2 q3
/-- o.m(k = v, ..) -/
theorem pe_methN0 {pl : Sem Bool} (he : PE X o ta) (c : Cls X.K C) (hm : Meth X.K C m f) (F : FnOk X.prog X.w X.K X.mg X.base CX k f fd ps sp) (hr : Room k X.A) (hb : KBn X.K fd ps 1 ks g gV) (hx : Passes CX X E) (hkw : PK X kws tk)
    (hall : (backToKw pos (keywordEach kws X.env)).all (·.1.isSome) = true := by rfl) (hks : (backToKw pos (keywordEach kws X.env)).filterMap (·.1) = ks := by rfl)
    (hpl : ((backTo pos (starEach [] X.env)).any (·.1) || (backToKw pos (keywordEach kws X.env)).any (·.1.isNone)) = false := by rfl)
    (ht : eval (.Call (.Attribute o m apos) [] kws pos) X.env = (do
      let ov ← eval o X.env
      standAt apos.atName
      let (f, first) ← holding [ov] (getMethod ov m pl)
      callWith pos f first (backTo pos (starEach [] X.env)) (backToKw pos (keywordEach kws X.env))) := by rfl) :
    PE X (.Call (.Attribute o m apos) [] kws pos) (tMethN C m 0 ks.length sp gV E ta tNil tk) := by
  refine ⟨fun pins s σ H Q I h => ?_⟩
  refine PySem.W.methodCall_KW (pl := pl) (thn (he.run pins s σ H _ I h) fun u s1 ⟨x, H1, I1, rx, a, dx, fs, ex, ea, l, q⟩ => ?_) ht
  subst ex
  obtain rfl : u = Value.ref a := rx
  refine getmeth_ok I1 ea c hm l ?_
  refine PySem.W.callWith_KW0 (first := [.ref a]) (h₀ := X.base) I.ok.mod.kin hm.kp hall (thn (hkw.run pos pins s1 σ H1 _ I1 q) fun ws s3 ⟨zs, H3, I3, rz, l1, l2, q3⟩ => ⟨I3.kIn, ?_⟩) hpl
  rw [hks]
  exact run_fnN (us := [.ref a]) (vs := [.ref a]) F hr hb hx I3 (.cons rfl .nil) rz rfl l2 q3
end
end VG

set_option maxRecDepth 100000
/-! zip of two sequences, each a list or a tuple. -/
namespace VG
open PySem PySem.Spec PyProof.Rows L2
inductive Kd | l | t
def Kd.sq (K : PySem.W.Frag) (H : Hp) (a : Addr) (xs : List V) : Kd → Prop
  | .l => SqL K H a xs
  | .t => SqT K H a xs
def Kd.iter (h : Heap) (it a : Addr) (i : Nat) : Kd → Prop
  | .l => h.IsListIter it a i
  | .t => h.IsTupleIter it a i
def Kd.is (h : Heap) (a : Addr) (its : Array Value) : Kd → Prop
  | .l => h.IsList a its
  | .t => h.IsTuple a its
def Kd.obj (a : Addr) : Kd → Obj
  | .l => { cls := .type "list_iterator", data := .fields #[.ref a, .int 0 0] }
  | .t => { cls := .type "tuple_iterator", data := .fields #[.ref a, .int 0 0] }
theorem Kd.same {K : PySem.W.Frag} {H H' : Hp} {a : Addr} {xs : List V} (e : Same H H') : ∀ {k : Kd}, k.sq K H a xs → k.sq K H' a xs
  | .l, h => e.seq h
  | .t, h => Same.tup e h
theorem Kd.draws {P : Program} {w : World} {A : Around} (hh : A.handled = none) (it a : Addr) (hne : a ≠ it) (items : Array Value) : ∀ k : Kd, Draws P w A it [it, a] items.size (fun i v => items[i]? = some v) (fun i h => k.iter h it a i ∧ k.is h a items)
  | .l => Draws.list hh it a hne items
  | .t => Draws.tuple hh it a hne items
theorem Kd.begins (a : Addr) (items : Array Value) : ∀ k : Kd, Begins (.ref a) (k.obj a) fun h => k.is h a items
  | .l => begins_list a items
  | .t => begins_tuple a items
theorem Kd.start {h : Heap} {it a : Addr} : ∀ {k : Kd}, h.get? it = some (k.obj a) → k.iter h it a 0
  | .l, e => ⟨_, e, rfl, rfl⟩
  | .t, e => ⟨_, e, rfl, rfl⟩
theorem Kd.ito {h : Heap} {it a : Addr} {i : Nat} : ∀ {k : Kd}, k.iter h it a i → ∃ o, h.get? it = some o ∧ ∀ v, o.data ≠ .cell v
  | .l, ⟨o, e, _, d⟩ => ⟨o, e, fun v q => by rw [d] at q; cases q⟩
  | .t, ⟨o, e, _, d⟩ => ⟨o, e, fun v q => by rw [d] at q; cases q⟩
theorem Kd.itk {h h' : Heap} {it a : Addr} {i : Nat} : ∀ {k : Kd}, k.iter h it a i → (∀ o, h.get? it = some o → h'.get? it = some o) → k.iter h' it a i
  | .l, h1, f => h1.at fun o q => f o q
  | .t, h1, f => h1.at fun o q => f o q
section
variable {X : Cx} {pins : List (Addr × Obj)} {σ : L2.St} {H : Hp} {s : Shared}
theorem Kd.of (I : Inv X pins σ H s) {a : Addr} {xs : List V} : ∀ {k : Kd}, k.sq X.K H a xs → ∃ its : List Value, Vals xs its ∧ k.is s.heap a its.toArray ∧ a < s.heap.objs.size
  | .l, h => by
    obtain ⟨its, rv, p, _⟩ := I.list h
    exact ⟨its, rv, p.isList, p.lt⟩
  | .t, h => by
    obtain ⟨its, rv, p, _⟩ := I.tuple h
    obtain ⟨o, e, _⟩ := id p
    exact ⟨its, rv, p, Heap.lt_size e⟩
theorem Kd.inj (I : Inv X pins σ H s) {a : Addr} {xs ys : List V} : ∀ {k : Kd}, k.sq X.K H a xs → k.sq X.K H a ys → xs = ys
  | .l, h, h' => I.list_inj h h'
  | .t, h, h' => I.tuple_inj h h'
end
/-- the items of two sequences, in new pairs -/
def ItzG (K : PySem.W.Frag) (k1 k2 : Kd) (a b : Addr) : It :=
  ⟨fun i H => ∃ (xs ys : List V) (x y : V), k1.sq K H a xs ∧ k2.sq K H b ys ∧ xs[i]? = some x ∧ ys[i]? = some y,
    fun i H v H' => ∃ T x y, v = .ref T ∧ H T = none ∧ H' = upd H T (.tup [x, y]) ∧ (∀ xs, k1.sq K H a xs → xs[i]? = some x) ∧ ∀ ys, k2.sq K H b ys → ys[i]? = some y,
    fun i H => ∃ xs ys : List V, k1.sq K H a xs ∧ k2.sq K H b ys ∧ ((xs.length = i ∧ i ≤ ys.length) ∨ (ys.length = i ∧ i ≤ xs.length))⟩
theorem apart_sep {z TI TO i1 i2 a b : Addr} (D : ZipApart z TI TO i1 i2 a b) : ZipSep2 z TI TO i1 i2 [i1, a] [i2, b] where
  TIz := D.TIz
  TOz := D.TOz
  TITO := D.TITO
  TIi1 := D.TIi1
  mem1 := by simp
  zf1 := by simp [D.i1z.symm, D.l1z.symm]
  Tf1 := by simp [D.TOi1, D.l1TO.symm]
  TIi2 := D.TIi2
  mem2 := by simp
  zf2 := by simp [D.i2z.symm, D.l2z.symm]
  Tf2 := by simp [D.TOi2, D.l2TO.symm]
  sep1_2 := by simp [D.i12, D.l2i1.symm]
  sep2_1 := by simp [D.i12.symm, D.l1i2.symm]
theorem turn_zipG {P : Program} {w : World} {K : PySem.W.Frag} {elts : List Expr} {kk : Nat} {tpos : Pos} {k1 k2 : Kd} {a b z TI TO i1 i2 : Addr} (D : ZipApart z TI TO i1 i2 a b) :
    Turn P w K (.Tuple elts kk tpos) (ItzG K k1 k2 a b) [z, TI, TO, i1, i2] z (fun i h => IsZip h z TI TO .none ∧ IsTupOf2 h TI (.ref i1) (.ref i2) ∧ (∃ x y, IsTupOf2 h TO x y) ∧ k1.iter h i1 a i ∧ k2.iter h i2 b i) where
  mem := by simp
  obj := fun i h st c hc => by
    obtain ⟨hz, hTI, ⟨x, y, hTO⟩, e1, e2⟩ := st
    have e' : c = z ∨ c = TI ∨ c = TO ∨ c = i1 ∨ c = i2 := by simpa using hc
    rcases e' with q | q | q | q | q
    · rw [q]; exact ⟨_, hz, fun v q => nomatch q⟩
    · rw [q]; exact ⟨_, hTI, fun v q => nomatch q⟩
    · rw [q]; exact ⟨_, hTO, fun v q => nomatch q⟩
    · rw [q]; exact Kd.ito e1
    · rw [q]; exact Kd.ito e2
  keep := fun i h h' st k => by
    obtain ⟨hz, hTI, ⟨x, y, hTO⟩, h1, h2⟩ := st
    exact ⟨k z (by simp) _ hz, k TI (by simp) _ hTI, ⟨x, y, k TO (by simp) _ hTO⟩, Kd.itk h1 fun o q => k i1 (by simp) o q, Kd.itk h2 fun o q => k i2 (by simp) o q⟩
  item := by
    intro X hP hw hK hc i pins s σ H E I hf st hg
    subst hP hw hK
    obtain ⟨hz, hTI, ⟨x0, y0, hTO⟩, h1, h2⟩ := st
    obtain ⟨xs, ys, x, y, hqx, hqy, hx, hy⟩ := hg
    obtain ⟨its, rv, p, _⟩ := Kd.of I hqx
    obtain ⟨its2, rv2, p2, _⟩ := Kd.of I hqy
    obtain ⟨u, hu, ru⟩ := rv.get hx
    obtain ⟨u2, hu2, ru2⟩ := rv2.get hy
    have hzl : z < s.heap.objs.size := Heap.lt_size hz
    have lt1 : i < its.toArray.size := by
      obtain ⟨q, _⟩ := List.getElem?_eq_some_iff.mp hu
      simpa using q
    have lt2 : i < its2.toArray.size := by
      obtain ⟨q, _⟩ := List.getElem?_eq_some_iff.mp hu2
      simpa using q
    refine wpAny_pyNext_zipD2_item (apart_sep D) (Kd.draws (A := X.A.in1) (I.ok.hd hc) i1 a D.l1i1 its.toArray k1) (Kd.draws (A := X.A.in1) (I.ok.hd hc) i2 b D.l2i2 its2.toArray k2) hz hTI hTO ⟨h1, p⟩ ⟨h2, p2⟩ lt1 lt2 fun v1 v2 h' tk q1 q2 z' TO' st1' st2' hT hsz hk => ?_
    have ev1 : v1 = u := by
      have q1 : its.toArray[i]? = some v1 := q1
      have y : its.toArray[i]? = some u := by simpa using hu
      rw [y] at q1
      exact (Option.some.inj q1).symm
    have ev2 : v2 = u2 := by
      have q2 : its2.toArray[i]? = some v2 := q2
      have y : its2.toArray[i]? = some u2 := by simpa using hu2
      rw [y] at q2
      exact (Option.some.inj q2).symm
    subst ev1 ev2
    refine ⟨_, rfl, wpAny_letOwnedTupleGo_zip (s := { s with heap := h', toks := tk }) z' fun h'' z'' sb => ?_⟩
    have hT2 : h''.get? s.heap.objs.size = some { cls := .type "tuple", data := .seq #[v1, v2] } := (sb.2 _ (Nat.ne_of_gt hzl)).trans hT
    have new : ObjOk X.prog X.w (upd H s.heap.objs.size (.tup [x, y])) h'' s.heap.objs.size (.tup [x, y]) :=
      ⟨by show 2 ≤ sizeLine; decide, [v1, v2], .cons ru (.cons ru2 .nil), ⟨_, hT2, rfl, _, rfl⟩⟩
    have I1 : Inv X pins σ (upd H s.heap.objs.size (.tup [x, y])) { s with heap := h'', toks := tk } :=
      I.turnedNew (t' := tk) (ch := [z, TI, TO, i1, i2]) (fun c o hb q => (sb.2 c (fun q' => hb (by simp [q']))).trans (hk c o (fun q' => hb (by simp [q'])) (fun q' => hb (by simp [q'])) (fun q' => hb (by simp [q'])) (fun q' => hb (by simp [q'])) q)) hf (Nat.le_refl _) new
    refine ⟨.ref s.heap.objs.size, _, I1, rfl, ⟨_, x, y, rfl, I.hok.fresh (Nat.le_refl _), rfl, fun l hl => by rw [Kd.inj I hl hqx]; exact hx, fun l hl => by rw [Kd.inj I hl hqy]; exact hy⟩, ⟨z'', ?_, ⟨v1, v2, ?_⟩, ?_, ?_⟩, fun c hcm => ?_⟩
    · exact (sb.2 _ D.TIz).trans (hk _ _ D.TIz D.TITO D.TIi1 D.TIi2 hTI)
    · exact (sb.2 _ D.TOz).trans TO'
    · exact Kd.itk st1'.1 fun o q => (sb.2 _ D.i1z).trans q
    · exact Kd.itk st2'.1 fun o q => (sb.2 _ D.i2z).trans q
    · have hlt : c < s.heap.objs.size := by
        have e' : c = z ∨ c = TI ∨ c = TO ∨ c = i1 ∨ c = i2 := by simpa using hcm
        rcases e' with q | q | q | q | q
        · rw [q]; exact hzl
        · rw [q]; exact Heap.lt_size hTI
        · rw [q]; exact Heap.lt_size hTO
        · rw [q]; obtain ⟨_, e1, _⟩ := Kd.ito h1; exact Heap.lt_size e1
        · rw [q]; obtain ⟨_, e2, _⟩ := Kd.ito h2; exact Heap.lt_size e2
      rw [upd_ne (Nat.ne_of_lt hlt)]
      exact (hf c hcm).1
  done := by
    intro X hP hw hK hc i pins s σ H E I hf st hg
    subst hP hw hK
    obtain ⟨hz, hTI, ⟨x0, y0, hTO⟩, h1, h2⟩ := st
    obtain ⟨xs, ys, hqx, hqy, hend⟩ := hg
    obtain ⟨its, rv, p, _⟩ := Kd.of I hqx
    obtain ⟨its2, rv2, p2, _⟩ := Kd.of I hqy
    have l1 : its.toArray.size = xs.length := by
      have := rv.length
      simp; omega
    have l2 : its2.toArray.size = ys.length := by
      have := rv2.length
      simp; omega
    refine wpAny_pyNext_zipD2_end (apart_sep D) (Kd.draws (A := X.A.in1) (I.ok.hd hc) i1 a D.l1i1 its.toArray k1) (Kd.draws (A := X.A.in1) (I.ok.hd hc) i2 b D.l2i2 its2.toArray k2) hz hTI hTO ⟨h1, p⟩ ⟨h2, p2⟩ (by omega) (by omega) (by omega) fun h' tk hk => ⟨rfl, I.turnedL (t' := tk) (ch := [z, TI, TO, i1, i2]) (fun c o hb q =>
      hk c o (fun q' => hb (by simp [q'])) (fun q' => hb (by simp [q'])) (fun q' => hb (by simp [q'])) (fun q' => hb (by simp [q'])) q) hf⟩
  self := fun A i s Q E st h => wpAny_pyIter_zip st.1 h
def iZipG (K : PySem.W.Frag) (ta : TA) : TI := fun σ H R => ta σ H fun vs H1 => ∃ a b k1 k2 xs ys, vs = [.ref a, .ref b] ∧ Kd.sq K H1 a xs k1 ∧ Kd.sq K H1 b ys k2 ∧ R (ItzG K k1 k2 a b) H1
theorem pi_zipG {X : Cx} {e e2 : Expr} {ta : TA} {p pos tpos : Pos} {elts : List Expr} {kk : Nat} (hg : Gl X "zip") (hm : X.mg "zip" = none) (ha : PA X [e, e2] ta)
    (hs : starEach [e, e2] X.env = (false, eval e X.env) :: starEach [e2] X.env := by rfl) (hpl : (backTo pos (starEach [e2] X.env)).any (·.1) = false := by rfl) :
    PI X (.Tuple elts kk tpos) (.Call (.Name "zip" p) [e, e2] [] pos) (iZipG X.K ta) := by
  refine ⟨fun pins s σ H R I h => ?_⟩
  refine Call_ (ld_blt I hg hm PyProof.Rows.boot_zip (PyProof.Rows.callWith_type1 (thn (ha.run pos pins s σ H _ I h) fun us s1 ⟨vs, H1, I1, r1, q1⟩ => ?_) hs hpl))
  obtain ⟨a, b, k1, k2, xs, ys, ex, hqx, hqy, q⟩ := q1
  subst ex
  cases r1 with
  | cons r rr =>
    cases rr with
    | cons r' rr =>
      cases rr
      cases r
      cases r'
      have fresh5 : ∀ c, c ∈ [s1.heap.objs.size + 4, s1.heap.objs.size + 2, s1.heap.objs.size + 3, s1.heap.objs.size, s1.heap.objs.size + 1] → FpOk X pins H1 c := fun c hcm => by
        have e' : c = s1.heap.objs.size + 4 ∨ c = s1.heap.objs.size + 2 ∨ c = s1.heap.objs.size + 3 ∨ c = s1.heap.objs.size ∨ c = s1.heap.objs.size + 1 := by simpa using hcm
        have hle : s1.heap.objs.size ≤ c := by
          rcases e' with z | z | z | z | z
          · rw [z]; exact Nat.le_add_right _ _
          · rw [z]; exact Nat.le_add_right _ _
          · rw [z]; exact Nat.le_add_right _ _
          · rw [z]; exact Nat.le_refl _
          · rw [z]; exact Nat.le_add_right _ _
        exact I1.fpOk hle (I1.hok.fresh hle)
      obtain ⟨its, rv, p1, lt1⟩ := Kd.of I1 hqx
      obtain ⟨its2, rv2, p2, lt2⟩ := Kd.of I1 hqy
      refine zip_begins2 (Kd.begins a its.toArray k1) (Kd.begins b its2.toArray k2) p1 p2 fun h' hz hTI hTO h1 h2 hsz hk => wpAny_pyIter_zip hz ?_
      have I2 : Inv X pins σ H1 { s1 with heap := h' } := I1.kept (t' := s1.toks) hk
      exact ⟨s1.heap.objs.size + 4, [s1.heap.objs.size + 4, s1.heap.objs.size + 2, s1.heap.objs.size + 3, s1.heap.objs.size, s1.heap.objs.size + 1], _, _, H1, rfl, I2, turn_zipG (PySem.W.ktu_apart s1.heap.objs.size a b lt1 lt2), ⟨hz, hTI, ⟨_, _, hTO⟩, Kd.start h1, Kd.start h2⟩, fresh5, q⟩
/-- a comprehension over zip of two sequences of one length -/
theorem lc_zipG {K : PySem.W.Frag} {k1 k2 : Kd} {a b : Addr} {xs ys : List V} {g : TG} {tt : TT} {te : TE} {vs : List Nat} {σ : L2.St} {H1 : Hp} {D : Addr} {Qd : Hp → Prop} (hl : xs.length = ys.length) (Pv : Nat → Hp → Prop) (h0 : Pv 0 (upd H1 D (.lst []))) (hq : ∀ i H, i ≤ xs.length → Pv i H → k1.sq K H a xs ∧ k2.sq K H b ys)
    (hs : ∀ i x y T H, xs[i]? = some x → ys[i]? = some y → Pv i H → H T = none → g (.ref T) (wipe σ vs) (upd H T (.tup [x, y])) fun σ2 H2 => wipe σ2 vs = wipe σ vs ∧ tt σ2 H2 fun b H3 =>
      if b = true then te σ2 H3 fun y H4 => ∃ acc, H4 D = some (.lst acc) ∧ acc.length < sizeLine ∧ Pv (i + 1) (upd H4 D (.lst (acc ++ [y]))) else Pv (i + 1) H3) (hd : ∀ H, Pv xs.length H → Qd H) :
    ∃ W : Nat → Nat → Hp → Prop, (∃ m, W 0 m (upd H1 D (.lst []))) ∧ ∀ i m H, W i m H →
      ((ItzG K k1 k2 a b).stop i H ∧ Qd H) ∨ ((ItzG K k1 k2 a b).go i H ∧ ∃ Nx : Hp → Prop, (∀ H', Nx H' → ∃ m', m' < m ∧ W (i + 1) m' H') ∧ ∀ x H', (ItzG K k1 k2 a b).yld i H x H' → g x (wipe σ vs) H' fun σ2 H2 => wipe σ2 vs = wipe σ vs ∧ tt σ2 H2 fun b H3 =>
        if b = true then te σ2 H3 fun y H4 => ∃ acc, H4 D = some (.lst acc) ∧ acc.length < sizeLine ∧ Nx (upd H4 D (.lst (acc ++ [y]))) else Nx H3) := by
  refine ⟨fun i m H => m = xs.length - i ∧ i ≤ xs.length ∧ Pv i H, ⟨xs.length, by simp, Nat.zero_le _, h0⟩, ?_⟩
  rintro i m H ⟨rfl, hi, p⟩
  obtain ⟨qx, qy⟩ := hq i H hi p
  by_cases hlt : i < xs.length
  · have hx : xs[i]? = some xs[i] := List.getElem?_eq_getElem hlt
    have hlt2 : i < ys.length := by omega
    have hy : ys[i]? = some ys[i] := List.getElem?_eq_getElem hlt2
    refine .inr ⟨⟨xs, ys, _, _, qx, qy, hx, hy⟩, Pv (i + 1), fun H' p' => ⟨xs.length - (i + 1), by omega, rfl, hlt, p'⟩, fun v H' y => ?_⟩
    obtain ⟨T, x', y', rfl, hT, rfl, f1, f2⟩ := y
    exact hs i x' y' T H (f1 xs qx) (f2 ys qy) p hT
  · have e : i = xs.length := by omega
    subst e
    exact .inl ⟨⟨xs, ys, qx, qy, .inl ⟨rfl, by omega⟩⟩, hd H p⟩
/-! ### one sequence, a list or a tuple -/
def Kd.it (K : PySem.W.Frag) (a : Addr) : Kd → It
  | .l => Itl K a
  | .t => Itt K a
def iA (K : PySem.W.Frag) (tl : TE) : TI := fun σ H R => ∃ k : Kd, tl σ H fun x H1 => ∃ a, x = .ref a ∧ (∃ xs, k.sq K H1 a xs) ∧ R (k.it K a) H1
theorem pi_A {X : Cx} {tg l : Expr} {tl : TE} (hl : PE X l tl) : PI X tg l (iA X.K tl) := by
  refine ⟨fun pins s σ H R I h => ?_⟩
  obtain ⟨k, h⟩ := h
  cases k with
  | l => exact (pi_list (tg := tg) hl).run pins s σ H R I h
  | t => exact (pi_tup (tg := tg) hl).run pins s σ H R I h
theorem lc_A {K : PySem.W.Frag} {k : Kd} {a : Addr} {xs : List V} {g : TG} {tt : TT} {te : TE} {vs : List Nat} {σ : L2.St} {H1 : Hp} {D : Addr} {Qd : Hp → Prop} (Pv : Nat → Hp → Prop) (h0 : Pv 0 (upd H1 D (.lst []))) (hl : ∀ i H, i ≤ xs.length → Pv i H → k.sq K H a xs)
    (hs : ∀ i x H, xs[i]? = some x → Pv i H → g x (wipe σ vs) H fun σ2 H2 => wipe σ2 vs = wipe σ vs ∧ tt σ2 H2 fun b H3 =>
      if b = true then te σ2 H3 fun y H4 => ∃ acc, H4 D = some (.lst acc) ∧ acc.length < sizeLine ∧ Pv (i + 1) (upd H4 D (.lst (acc ++ [y]))) else Pv (i + 1) H3) (hd : ∀ H, Pv xs.length H → Qd H) :
    ∃ W : Nat → Nat → Hp → Prop, (∃ m, W 0 m (upd H1 D (.lst []))) ∧ ∀ i m H, W i m H →
      ((k.it K a).stop i H ∧ Qd H) ∨ ((k.it K a).go i H ∧ ∃ Nx : Hp → Prop, (∀ H', Nx H' → ∃ m', m' < m ∧ W (i + 1) m' H') ∧ ∀ x H', (k.it K a).yld i H x H' → g x (wipe σ vs) H' fun σ2 H2 => wipe σ2 vs = wipe σ vs ∧ tt σ2 H2 fun b H3 =>
        if b = true then te σ2 H3 fun y H4 => ∃ acc, H4 D = some (.lst acc) ∧ acc.length < sizeLine ∧ Nx (upd H4 D (.lst (acc ++ [y]))) else Nx H3) := by
  cases k with
  | l => exact lc_list (K := K) (a := a) (xs := xs) Pv h0 hl hs hd
  | t => exact lc_tup (K := K) (a := a) (xs := xs) Pv h0 hl hs hd
/-- data that are a list or a tuple -/
theorem dp_seq {K : PySem.W.Frag} {H : Hp} {v : V} {d : PyData} {ds : List PyData} (h : Dp K H v d) (e : d = .list ds ∨ d = .tuple ds) : ∃ (k : Kd) (a : Addr) (xs : List V), v = .ref a ∧ k.sq K H a xs ∧ DpAll K H xs ds := by
  rcases e with rfl | rfl
  · obtain ⟨a, xs, h1, h2, h3⟩ := dp_list h
    exact ⟨.l, a, xs, h1, h2, h3⟩
  · obtain ⟨a, xs, h1, h2, h3⟩ := dp_tup h
    exact ⟨.t, a, xs, h1, h2, h3⟩
theorem Kd.len {K : PySem.W.Frag} {H : Hp} {a : Addr} {xs : List V} : ∀ {k : Kd}, k.sq K H a xs → SqL K H a xs ∨ SqT K H a xs
  | .l, h => .inl h
  | .t, h => .inr h
end VG

set_option maxRecDepth 100000
/-! Data without lists. -/
namespace VG
open PySem PySem.Spec PyProof.Rows L2
mutual
def noL : PyData → Bool
  | .list _ => false
  | .dict _ => false
  | .tuple ds => noLs ds
  | _ => true
def noLs : List PyData → Bool
  | [] => true
  | d :: ds => noL d && noLs ds
end
theorem sqT_wos {K : PySem.W.Frag} {S : List Addr} {G : Hp} {a : Addr} {xs : List V} (hS : ∀ b ∈ S, ∃ ys, G b = some (.lst ys)) (h : SqT K G a xs) : SqT K (wos S G) a xs := by
  have off : ∀ {o : HO}, G a = some o → (∀ ys, o ≠ .lst ys) → wos S G a = some o := fun {o} e n => by
    rw [wos_out]
    · exact e
    · intro z
      obtain ⟨ys, hy⟩ := hS a z
      rw [e] at hy
      exact n ys (Option.some.inj hy)
  rcases h with (h | ⟨o, h⟩) | h
  · exact .inl (.inl (off h fun _ z => nomatch z))
  · exact .inl (.inr ⟨o, off h fun _ z => nomatch z⟩)
  · exact .inr h
mutual
theorem Dp.wosT {K : PySem.W.Frag} {S : List Addr} {G : Hp} (hS : ∀ b ∈ S, ∃ ys, G b = some (.lst ys)) : ∀ (d : PyData) (v : V), noL d = true → Dp K G v d → Dp K (wos S G) v d
  | .none, _, _, h => by cases h; exact .non
  | .bool b, _, _, h => by cases h; exact .bl b
  | .int i, _, _, h => by cases h; exact .int i
  | .str x, _, _, h => by cases h; exact .str x
  | .list ds, _, n, _ => by cases n
  | .tuple ds, _, n, h => by
    cases h with
    | tup a b => exact .tup (sqT_wos hS a) (DpAll.wosT hS ds _ n b)
  | .dict _, _, n, _ => by cases n
theorem DpAll.wosT {K : PySem.W.Frag} {S : List Addr} {G : Hp} (hS : ∀ b ∈ S, ∃ ys, G b = some (.lst ys)) : ∀ (ds : List PyData) (vs : List V), noLs ds = true → DpAll K G vs ds → DpAll K (wos S G) vs ds
  | [], _, _, h => by cases h; exact .nil
  | d :: ds, _, n, h => by
    obtain ⟨n1, n2⟩ := Bool.and_eq_true_iff.mp (show (noL d && noLs ds) = true from n)
    cases h with
    | cons a b => exact .cons (Dp.wosT hS d _ n1 a) (DpAll.wosT hS ds _ n2 b)
end
theorem noLs_of {ds : List PyData} (h : ∀ d ∈ ds, noL d = true) : noLs ds = true := by
  induction ds with
  | nil => rfl
  | cons d ds ih =>
    show (noL d && noLs ds) = true
    rw [h d List.mem_cons_self, ih fun e he => h e (List.mem_cons_of_mem _ he)]
    rfl
/-- data on new addresses stand without what was there ahead -/
theorem newer_wos {S : List Addr} {H G : Hp} (hS : ∀ b ∈ S, ∃ o, H b = some o) : Same (newer H G) (wos S G) := fun b o e => by
  cases z : H b with
  | some u =>
    rw [newer_none z] at e
    cases e
  | none =>
    rw [newer_at z] at e
    rw [wos_out]
    · exact e
    · intro y
      obtain ⟨u, hu⟩ := hS b y
      rw [z] at hu
      cases hu
/-- a list that grows, of data without lists -/
theorem Acc.put {K : PySem.W.Frag} {S : List Addr} {D : Addr} {H G : Hp} {ds : List PyData} {d : PyData} {y : V} (c : Acc K S D H ds) (e : Same H G) (hS : ∀ b ∈ S, ∃ ys, G b = some (.lst ys)) (n : noL d = true) (hy : Dp K G y d) :
    ∃ acc, G D = some (.lst acc) ∧ acc.length = ds.length ∧ Acc K S D (upd G D (.lst (acc ++ [y]))) (ds ++ [d]) := by
  have c2 := c.on (Exs.of e) fun o h => e D o h
  obtain ⟨acc, h1, _⟩ := c2.ex
  exact c2.more (Dp.wosT (fun b hb => by
    rcases List.mem_cons.mp hb with rfl | hb
    · exact ⟨_, h1⟩
    · exact hS b hb) d y n hy)
/-- a plain call of a def with a star parameter, its reading named (for comprehensions) -/
def tCallR (sp : Sp) (E : XK) (t : TA) : TE := fun σ H Q => t σ H fun vs H1 => sp vs H1 Q E
theorem pe_named {X : Cx} {e : Expr} {sp : Sp} {E : XK} {t : TA} (h : PE X e (fun σ H Q => t σ H fun vs H1 => sp vs H1 Q E)) : PE X e (tCallR sp E t) := h
end VG

set_option maxRecDepth 100000
/-! enumerate of a sequence, a list or a tuple. -/
namespace VG
open PySem PySem.Spec PyProof.Rows L2
set_option maxHeartbeats 1000000 in
theorem meets_enum1 {v : Value} {o : Obj} {H : Heap → Prop} (B : Begins v o H) :
    Meets (Builtin.«enumerate.__new__» ⟨[.type "enumerate", v], []⟩) (fun _ R s => H s.heap ∧
      R (.ok (.ret (.ref (s.heap.push o).objs.size))) { s with heap := (s.heap.push o).push { cls := .type "enumerate", data := .fields #[.none, .bool false, .ref s.heap.objs.size, rawInt 0, .none, .none] } }) :=
  .of_wp fun prog w A R s h => by
    obtain ⟨hp, g, d, tk, os⟩ := s
    obtain ⟨h1, h⟩ := h
    have hsub := sub_enumerate
    have q1 : ∀ {B' : Around} {E : Value → Shared → Prop} {Q : Value → Shared → Prop}, Q (.ref hp.objs.size) ⟨hp.push o, g, d, tk, os⟩ → wpAny (model prog w) B' (pyIter v) Q E ⟨hp, g, d, tk, os⟩ := fun q => B.iter prog w _ _ ⟨hp, g, d, tk, os⟩ _ h1 q
    wp_walk using q1
    refine wpAny_stack_any fun st => wpAny_pure ?_
    split
    · rename_i c _ _ _ _ _
      cases (c == Value.type "enumerate") <;> (wp_walk using q1; exact ⟨_, rfl, h⟩)
    · wp_walk using q1
      exact ⟨_, rfl, h⟩
section
variable {prog : Program} {w : World} {A : Around} {E : Value → Shared → Prop} {s : Shared}
theorem call_enum1 {v : Value} {o : Obj} {H : Heap → Prop} {Q : Value → Shared → Prop} (B : Begins v o H) (h1 : H s.heap)
    (h : ∀ h', IsEnum h' (s.heap.objs.size + 1) s.heap.objs.size 0 .none → h'.get? s.heap.objs.size = some o → (∀ b o, s.heap.get? b = some o → h'.get? b = some o) → Q (.ref (s.heap.objs.size + 1)) { s with heap := h' }) :
    wpAny (model prog w) A (call (.type "enumerate") [v]) Q E s := by
  refine callType_new F.called_enumerate (by decide) (F.typeCall_enumerate_1 _) (F.newCall_enumerate_1 _) (fun obj => F.args_object_init_2 obj _) F.entry_enumerate_new (meets_enum1 B) ⟨h1, ?_⟩
  have hz : (s.heap.push o).objs.size = s.heap.objs.size + 1 := Heap.size_push ..
  have he : IsEnum ((s.heap.push o).push { cls := .type "enumerate", data := .fields #[.none, .bool false, .ref s.heap.objs.size, rawInt 0, .none, .none] }) (s.heap.objs.size + 1) s.heap.objs.size 0 .none := by
    have z := Heap.get?_push_size (s.heap.push o) (o := { cls := .type "enumerate", data := .fields #[.none, .bool false, .ref s.heap.objs.size, rawInt 0, .none, .none] }) rfl
    rw [hz] at z
    exact z
  show _ ∧ _
  rw [hz]
  exact ⟨⟨_, he, rfl⟩, h _ he (Heap.get?_push_of_some _ (Heap.get?_push_size _ B.free)) fun b o x => Heap.get?_push_of_some _ (Heap.get?_push_of_some _ x)⟩
end
/-- the items of a sequence, with their numbers, in new pairs -/
def IteG (K : PySem.W.Frag) (k : Kd) (a : Addr) : It :=
  ⟨fun i H => ∃ (xs : List V) (x : V), k.sq K H a xs ∧ xs[i]? = some x, fun i H v H' => ∃ T x, v = .ref T ∧ H T = none ∧ H' = upd H T (.tup [.int (i : Nat), x]) ∧ ∀ xs, k.sq K H a xs → xs[i]? = some x, fun i H => ∃ xs : List V, k.sq K H a xs ∧ xs.length = i⟩
theorem turn_enumG {P : Program} {w : World} {K : PySem.W.Frag} {elts : List Expr} {kk : Nat} {tpos : Pos} {k : Kd} {a e it : Addr} (n1 : a ≠ it) (n2 : a ≠ e) (n3 : e ≠ it) :
    Turn P w K (.Tuple elts kk tpos) (IteG K k a) [e, it] e (fun i h => (∃ old, IsEnum h e it ((i : Nat) : Int) old) ∧ k.iter h it a i) where
  mem := by simp
  obj := fun i h st b hb => by
    obtain ⟨⟨old, he⟩, hi⟩ := st
    rcases (show b = e ∨ b = it by simpa using hb) with rfl | rfl
    · exact ⟨_, he, fun v q => nomatch q⟩
    · exact Kd.ito hi
  keep := fun i h h' st f => by
    obtain ⟨⟨old, he⟩, hi⟩ := st
    exact ⟨⟨old, f e (by simp) _ he⟩, Kd.itk hi fun o q => f it (by simp) o q⟩
  item := by
    intro X hP hw hK hc i pins s σ H E I hf st hg
    subst hP hw hK
    obtain ⟨⟨old, he⟩, hit⟩ := st
    obtain ⟨xs, x, hq, hx⟩ := hg
    obtain ⟨its, rv, p, _⟩ := Kd.of I hq
    obtain ⟨u, hu, ru⟩ := rv.get hx
    have hel : e < s.heap.objs.size := Heap.lt_size he
    have hil : it < s.heap.objs.size := by
      obtain ⟨_, q, _⟩ := Kd.ito hit
      exact Heap.lt_size q
    have lt : i < its.toArray.size := by
      obtain ⟨q, _⟩ := List.getElem?_eq_some_iff.mp hu
      simpa using q
    refine wpAny_pyNext_enum_itemC (Kd.draws (A := X.A.in1) (I.ok.hd hc) it a n1 its.toArray k) he ⟨hit, p⟩ lt n3 (by simp [n3, n2.symm]) fun v h' tk q1 ho hs hT hsz hk => ?_
    have ev : v = u := by
      have q1 : its.toArray[i]? = some v := q1
      rw [show its.toArray[i]? = some u by simpa using hu] at q1
      exact (Option.some.inj q1).symm
    subst ev
    refine ⟨_, rfl, wpAny_letOwnedTupleGo_enum (s := { s with heap := h', toks := tk + 1 }) ho fun h'' he' sb => ?_⟩
    have hT2 : h''.get? s.heap.objs.size = some { cls := .type "tuple", data := .seq #[.int i tk, v] } := (sb.2 _ (Nat.ne_of_gt hel)).trans hT
    have I1 : Inv X pins σ (upd H s.heap.objs.size (.tup [.int (i : Nat), x])) { s with heap := h'', toks := tk + 1 } :=
      I.turnedNew (ch := [e, it]) (fun b ob hb q => (sb.2 b (fun z => hb (by simp [z]))).trans (hk b ob (fun z => hb (by simp [z])) (fun z => hb (by simp [z])) q)) hf (Nat.le_refl _)
        ⟨by show 2 ≤ sizeLine; decide, [.int i tk, v], .cons ⟨_, rfl⟩ (.cons ru .nil), ⟨_, hT2, rfl, _, rfl⟩⟩
    refine ⟨.ref s.heap.objs.size, _, I1, rfl, ⟨_, x, rfl, I.hok.fresh (Nat.le_refl _), rfl, fun ys hy => by rw [Kd.inj I hy hq]; exact hx⟩, ⟨⟨v, ?_⟩, Kd.itk hs.1 fun o q => (sb.2 it (Ne.symm n3)).trans q⟩, fun b hb => ?_⟩
    · have e1 : ((i + 1 : Nat) : Int) = (i : Int) + 1 := by omega
      rw [e1]
      exact he'
    · have hb' : b < s.heap.objs.size := by
        rcases (show b = e ∨ b = it by simpa using hb) with rfl | rfl
        · exact hel
        · exact hil
      rw [upd_ne (Nat.ne_of_lt hb')]
      exact (hf b hb).1
  done := by
    intro X hP hw hK hc i pins s σ H E I hf st hg
    subst hP hw hK
    obtain ⟨⟨old, he⟩, hit⟩ := st
    obtain ⟨xs, hq, hl⟩ := hg
    obtain ⟨its, rv, p, _⟩ := Kd.of I hq
    have l1 : its.toArray.size = i := by
      have := rv.length
      simp
      omega
    subst l1
    refine wpAny_pyNext_enum_endD (Kd.draws (A := X.A.in1) (I.ok.hd hc) it a n1 its.toArray k) he ⟨hit, p⟩ fun h' eb => ⟨rfl, I.turnedL (t' := s.toks) (ch := [e, it]) (fun b o hb q => eb b o (fun z => hb (by simp [z])) q) hf⟩
  self := fun A i s Q E st h => by
    obtain ⟨⟨_, he⟩, _⟩ := st
    exact wpAny_pyIter_enum he h
def iEnumG (K : PySem.W.Frag) (ta : TA) : TI := fun σ H R => ta σ H fun vs H1 => ∃ a k xs, vs = [.ref a] ∧ Kd.sq K H1 a xs k ∧ R (IteG K k a) H1
theorem pi_enumG {X : Cx} {e : Expr} {ta : TA} {p pos tpos : Pos} {elts : List Expr} {kk : Nat} (hg : Gl X "enumerate") (hm : X.mg "enumerate" = none) (ha : PA X [e] ta) (hs : starEach [e] X.env = [(false, eval e X.env)] := by rfl) :
    PI X (.Tuple elts kk tpos) (.Call (.Name "enumerate" p) [e] [] pos) (iEnumG X.K ta) := by
  refine ⟨fun pins s σ H R I h => ?_⟩
  refine Call_ (ld_blt I hg hm boot_enumerate (PyProof.Rows.callWith_type1 (thn (ha.run pos pins s σ H _ I h) fun us s1 ⟨vs, H1, I1, r1, q1⟩ => ?_) hs rfl))
  obtain ⟨a, k, xs, ex, hq, q⟩ := q1
  subst ex
  cases r1 with
  | cons r rr =>
    cases rr
    cases r
    obtain ⟨its, rv, p', lt⟩ := Kd.of I1 hq
    refine call_enum1 (Kd.begins a its.toArray k) p' fun h' he hit hk => wpAny_pyIter_enum he ?_
    have I2 : Inv X pins σ H1 { s1 with heap := h' } := I1.kept (t' := s1.toks) hk
    refine ⟨s1.heap.objs.size + 1, [s1.heap.objs.size + 1, s1.heap.objs.size], _, _, H1, rfl, I2, turn_enumG (k := k) (a := a) (Nat.ne_of_lt lt) (Nat.ne_of_lt (Nat.lt_succ_of_lt lt)) (Nat.succ_ne_self _), ⟨⟨.none, he⟩, Kd.start hit⟩, fun b hb => ?_, q⟩
    have hle : s1.heap.objs.size ≤ b := by
      rcases (show b = s1.heap.objs.size + 1 ∨ b = s1.heap.objs.size by simpa using hb) with z | z
      · rw [z]
        exact Nat.le_succ _
      · rw [z]
        exact Nat.le_refl _
    exact I1.fpOk hle (I1.hok.fresh hle)
/-- a loop over enumerate of a sequence -/
theorem for_enumG {K : PySem.W.Frag} {k : Kd} {a : Addr} {xs : List V} {g : TG} {tb : TS} {D : Ends} {σ : L2.St} {H : Hp} (Pv : Nat → L2.St → Hp → Prop) (h0 : Pv 0 σ H) (hl : ∀ i σ H, Pv i σ H → k.sq K H a xs)
    (hs : ∀ (i : Nat) (x : V) (T : Addr) (σ : L2.St) (H : Hp), xs[i]? = some x → Pv i σ H → H T = none → g (.ref T) σ (upd H T (.tup [.int (i : Nat), x])) fun σ2 H2 => tb { D with nx := Pv (i + 1), ct := Pv (i + 1), bk := D.nx } σ2 H2) (hd : ∀ σ H, Pv xs.length σ H → D.nx σ H) :
    ∃ W : Nat → Nat → L2.St → Hp → Prop, (∃ m, W 0 m σ H) ∧ ∀ i m σ H, W i m σ H →
      ((IteG K k a).stop i H ∧ D.nx σ H) ∨ ((IteG K k a).go i H ∧ ∃ N : L2.St → Hp → Prop, (∀ σ' H', N σ' H' → ∃ m', m' < m ∧ W (i + 1) m' σ' H') ∧ ∀ v H', (IteG K k a).yld i H v H' → g v σ H' fun σ2 H2 => tb { D with nx := N, ct := N, bk := D.nx } σ2 H2) := by
  refine ⟨fun i m σ H => m = xs.length - i ∧ i ≤ xs.length ∧ Pv i σ H, ⟨_, rfl, Nat.zero_le _, h0⟩, ?_⟩
  rintro i m σ H ⟨rfl, hi, p⟩
  have q := hl i σ H p
  by_cases lt : i < xs.length
  · have hx : xs[i]? = some xs[i] := List.getElem?_eq_getElem lt
    refine .inr ⟨⟨xs, _, q, hx⟩, Pv (i + 1), fun σ' H' p' => ⟨xs.length - (i + 1), by omega, rfl, lt, p'⟩, fun v H' y => ?_⟩
    obtain ⟨T, x', rfl, hT, rfl, f⟩ := y
    exact hs i x' T σ H (f xs q) p hT
  · obtain rfl : i = xs.length := by omega
    exact .inl ⟨⟨xs, q, rfl⟩, hd σ H p⟩
end VG

set_option maxRecDepth 100000
set_option linter.unusedVariables false
namespace Lw
open PySem PySem.Spec PyProof.Rows L2 VG
def whole : PyData → Bool
  | .int _ => true
  | _ => false
theorem whole_int {d : PyData} (h : whole d = true) : ∃ i, d = .int i := by
  cases d <;> first | exact ⟨_, rfl⟩ | cases h
def intOf : PyData → Int
  | .int i => i
  | _ => 0
def isRat : PyData → Bool
  | .tuple [d1, d2] => whole d1 && (whole d2 && (decide (1 ≤ intOf d2) && decide (Nat.gcd (intOf d1).natAbs (intOf d2).natAbs = 1)))
  | _ => false
/-- top and bottom in lowest terms -/
def low (t b : Int) : Int × Int := (t / (Nat.gcd t.natAbs b.natAbs : Int), b / (Nat.gcd t.natAbs b.natAbs : Int))
structure NmW (mg : Str → Option Value) : Prop where
  isi : mg "isinstance" = none
  int : mg "int" = none
  bool : mg "bool" = none
section
variable {P : Program} {w : World} {K : PySem.W.Frag} {mg : Str → Option Value} {base : Heap}
theorem two_of {H : Hp} {xs : List V} {ds : List PyData} (hd : DpAll K H xs ds) (h : xs.length = 2) : ∃ y1 y2 d1 d2, xs = [y1, y2] ∧ ds = [d1, d2] ∧ Dp K H y1 d1 ∧ Dp K H y2 d2 := by
  cases hd with
  | nil => cases h
  | cons h1 t =>
    cases t with
    | nil => cases h
    | cons h2 t =>
      cases t with
      | nil => exact ⟨_, _, _, _, rfl, rfl, h1, h2⟩
      | cons h3 t =>
        simp only [List.length_cons] at h
        omega
def spWhole (K : PySem.W.Frag) : Sp := fun vs H Q _ => ∃ (x : V) (d : PyData), vs = [x] ∧ Dp K H x d ∧ Q (.bl (whole d)) H
theorem scWhole : FnScope ["value"] ["value"] (defScope s__is_whole) := ⟨rfl, rfl, rfl, by decide +kernel, rfl, by decide +kernel, by decide +kernel⟩
theorem ok_whole {f : Addr} {fd : FuncData} (F : Fun K "_is_whole" "_is_whole" s__is_whole f fd) (T : NmW mg) : FnOk P w K mg base CX0 1 f fd ["value"] (spWhole K) := by
  refine F.ok scWhole (fun vs H Q E h => ?_) (fun cdv A outer s H vs Q E hr h => ?_)
  · obtain ⟨x, d, rfl, _⟩ := h
    rfl
  · obtain ⟨x, d, rfl, hx, q⟩ := h
    refine ⟨_, pss_one (ps_ret (pe_and (pe_callB call_isi (by rfl) T.isi (by decide +kernel) (pa_cons (pv 0) (pa_cons (pe_bltn (v := .ty "int") (by rfl) T.int (by decide +kernel) rfl) pa_nil)))
      (pe_one (pe_not (pe_callB call_isi (by rfl) T.isi (by decide +kernel) (pa_cons (pv 0) (pa_cons (pe_bltn (v := .ty "bool") (by rfl) T.bool (by decide +kernel) rfl) pa_nil))))))), ?_⟩
    cases hx with
    | non => exact ⟨_, rfl, _, _, _, _, false, rfl, .ty "int", .base .non, kit_ty (by decide +kernel), _, rfl, iteF q⟩
    | bl b => exact ⟨_, rfl, _, _, _, _, true, rfl, .ty "int", .base (.bl b), kit_ty (by decide +kernel), _, rfl, iteT ⟨_, rfl, _, _, _, _, true, rfl, .ty "bool", .base (.bl b), kit_ty (by decide +kernel), _, rfl, q⟩⟩
    | int i => exact ⟨_, rfl, _, _, _, _, true, rfl, .ty "int", .base (.int i), kit_ty (by decide +kernel), _, rfl, iteT ⟨_, rfl, _, _, _, _, false, rfl, .ty "bool", .base (.int i), kit_ty (by decide +kernel), _, rfl, q⟩⟩
    | str z => exact ⟨_, rfl, _, _, _, _, false, rfl, .ty "int", .base (.str z), kit_ty (by decide +kernel), _, rfl, iteF q⟩
    | lst hs hd => exact ⟨_, rfl, _, _, _, _, false, rfl, .ty "int", tyx_list hs, kit_ty (by decide +kernel), _, rfl, iteF q⟩
    | tup hs hd => exact ⟨_, rfl, _, _, _, _, false, rfl, .ty "int", tyx_tup hs, kit_ty (by decide +kernel), _, rfl, iteF q⟩
def spIsRat (K : PySem.W.Frag) : Sp := fun vs H Q _ => ∃ (x : V) (d : PyData), vs = [x] ∧ Dp K H x d ∧ Q (.bl (isRat d)) H
theorem scIsRat : FnScope ["value", "top", "bottom"] ["value"] (defScope s_is_ratio) := ⟨rfl, rfl, rfl, by decide +kernel, rfl, by decide +kernel, by decide +kernel⟩
structure NmR (mg : Str → Option Value) : Prop where
  w : NmW mg
  tup : mg "tuple" = none
  len : mg "len" = none
  gcd : mg "gcd" = some (.builtin "math.gcd")
theorem ok_isRat {f fW : Addr} {fd fdW : FuncData} (F : Fun K "is_ratio" "is_ratio" s_is_ratio f fd) (FW : Fun K "_is_whole" "_is_whole" s__is_whole fW fdW) (T : NmR mg) (mW : mg "_is_whole" = some (.ref fW)) (bW : Binds K fdW ["value"] []) :
    FnOk P w K mg base CX0 2 f fd ["value"] (spIsRat K) := by
  refine F.ok scIsRat (fun vs H Q E h => ?_) (fun cdv A outer s H vs Q E hr h => ?_)
  · obtain ⟨x, d, rfl, _⟩ := h
    rfl
  · obtain ⟨x, d, rfl, hx, q⟩ := h
    have nd := scIsRat.nd
    have GW := ok_whole (P := P) (w := w) (base := base) FW T.w
    refine ⟨_, pss_cons (ps_if (PW.pt (pw_or (pt_not (pt_val (pe_callB call_isi (by rfl) T.w.isi (by decide +kernel) (pa_cons (pv 0) (pa_cons (pe_bltn (v := .ty "tuple") (by rfl) T.tup (by decide +kernel) rfl) pa_nil)))))
        (pw_or1 (pt_cmpR op_ne (pe_callB call_len_seq (by rfl) T.len PySem.boot_len (pa_cons (pv 0) pa_nil)) pe_int (nomark _))))) (pss_one (ps_ret pe_bl)) pss_nil)
      (pss_cons (ps_asg (pv 0) (pg_tup (by rfl) (pgs_cons (pg_name (i := 1) nd rfl (Or.inl rfl)) (pgs_cons (pg_name (i := 2) nd rfl (Or.inl rfl)) pgs_nil))))
      (pss_one (ps_ret (pe_and (pe_call GW hr (by rfl) mW FW.kp bW .nil pass0 (pa_cons (pv 1) pa_nil)) (pe_and (pe_call GW hr (by rfl) mW FW.kp bW .nil pass0 (pa_cons (pv 2) pa_nil)) (pe_and (pe_cmpR op_ge (pv 2) pe_int (nomark _))
        (pe_one (pe_cmpR op_eq (pe_callBfun cr_gcd (by rfl) T.gcd (pa_cons (pv 1) (pa_cons (pv 2) pa_nil))) pe_int (nomark _))))))))), ?_⟩
    cases hx with
    | non => exact ⟨_, rfl, _, _, _, _, false, rfl, .ty "tuple", .base .non, kit_ty (by decide +kernel), _, rfl, iteT (iteT q)⟩
    | bl b => exact ⟨_, rfl, _, _, _, _, false, rfl, .ty "tuple", .base (.bl b), kit_ty (by decide +kernel), _, rfl, iteT (iteT q)⟩
    | int i => exact ⟨_, rfl, _, _, _, _, false, rfl, .ty "tuple", .base (.int i), kit_ty (by decide +kernel), _, rfl, iteT (iteT q)⟩
    | str z => exact ⟨_, rfl, _, _, _, _, false, rfl, .ty "tuple", .base (.str z), kit_ty (by decide +kernel), _, rfl, iteT (iteT q)⟩
    | lst hs hd => exact ⟨_, rfl, _, _, _, _, false, rfl, .ty "tuple", tyx_list hs, kit_ty (by decide +kernel), _, rfl, iteT (iteT q)⟩
    | @tup a xs ds hs hd =>
      refine ⟨_, rfl, _, _, _, _, true, rfl, .ty "tuple", tyx_tup hs, kit_ty (by decide +kernel), _, rfl, iteF ?_⟩
      refine ⟨_, rfl, a, xs, rfl, .inr hs, rfl, _, rfl, ?_⟩
      have hlen := DpAll.len hd
      refine ite2 (fun h => ?_) (fun h => ?_)
      · have n2 : ds.length ≠ 2 := fun z => by
          rw [hlen, z] at h
          exact absurd h (by decide)
        have e : isRat (.tuple ds) = false := by
          match ds, n2 with
          | [], _ => rfl
          | [_], _ => rfl
          | [_, _], n => exact absurd rfl n
          | _ :: _ :: _ :: _, _ => rfl
        rw [e] at q
        exact q
      · have n2 : xs.length = 2 := by
          by_cases z : xs.length = 2
          · exact z
          · have w : decide (V.int (xs.length : Int) = V.int 2) = false := decide_eq_false fun y => z (by have := V.int.inj y; omega)
            rw [w] at h
            exact absurd rfl h
        obtain ⟨y1, y2, d1, d2, rfl, rfl, h1, h2⟩ := two_of hd n2
        have q : Q (.bl (isRat (.tuple [d1, d2]))) H := q
        clear h
        refine ⟨_, rfl, a, _, rfl, hs, rfl, ?_⟩
        have q : Q (.bl (whole d1 && (whole d2 && (decide (1 ≤ intOf d2) && decide (Nat.gcd (intOf d1).natAbs (intOf d2).natAbs = 1))))) H := q
        refine ⟨y1, _, rfl, y2, _, rfl, rfl, ?_⟩
        refine ⟨_, rfl, y1, d1, rfl, h1, _, rfl, ?_⟩
        cases e1 : whole d1 with
        | false =>
          rw [e1] at q
          exact iteF q
        | true =>
          rw [e1] at q
          refine iteT ⟨_, rfl, y2, d2, rfl, h2, _, rfl, ?_⟩
          cases e2 : whole d2 with
          | false =>
            rw [e2] at q
            exact iteF q
          | true =>
            rw [e2] at q
            obtain ⟨i1, rfl⟩ := whole_int e1
            obtain ⟨i2, rfl⟩ := whole_int e2
            cases h1
            cases h2
            refine iteT ⟨_, rfl, _, _, rfl, rfl, _, rfl, ?_⟩
            have q : Q (.bl (decide (1 ≤ i2) && decide (Nat.gcd i1.natAbs i2.natAbs = 1))) H := q
            cases e3 : decide (1 ≤ i2) with
            | false =>
              rw [e3] at q
              exact iteF q
            | true =>
              rw [e3] at q
              refine iteT ⟨_, rfl, _, rfl, i1, i2, rfl, rfl, ?_⟩
              have q : Q (.bl (decide (Nat.gcd i1.natAbs i2.natAbs = 1))) H := q
              have e : decide (V.int ((Nat.gcd i1.natAbs i2.natAbs : Nat) : Int) = V.int 1) = decide (Nat.gcd i1.natAbs i2.natAbs = 1) := by
                by_cases z : Nat.gcd i1.natAbs i2.natAbs = 1
                · rw [decide_eq_true z]
                  exact decide_eq_true (show V.int ((Nat.gcd i1.natAbs i2.natAbs : Nat) : Int) = V.int 1 by rw [z]; rfl)
                · rw [decide_eq_false z, decide_eq_false fun y => z (by have := V.int.inj y; omega)]
              rw [← e] at q
              exact q
end
end Lw

set_option maxRecDepth 100000
set_option linter.unusedVariables false
namespace Lw
open PySem PySem.Spec PyProof.Rows L2 VG
/-- the ratio that some data are -/
def ratD : PyData → Int × Int
  | .int i => (i, 1)
  | .tuple [a, b] => (intOf a, intOf b)
  | _ => (0, 1)
def okR (d : PyData) : Bool := whole d || isRat d
theorem isRat_form {d : PyData} (h : isRat d = true) : ∃ t b : Int, d = .tuple [.int t, .int b] ∧ 1 ≤ b := by
  cases d with
  | tuple ds =>
    match ds, h with
    | [a, b], h =>
      have h : (whole a && (whole b && (decide (1 ≤ intOf b) && decide (Nat.gcd (intOf a).natAbs (intOf b).natAbs = 1)))) = true := h
      simp only [Bool.and_eq_true, decide_eq_true_eq] at h
      obtain ⟨h1, h2, h3, _⟩ := h
      obtain ⟨t, rfl⟩ := whole_int h1
      obtain ⟨c, rfl⟩ := whole_int h2
      exact ⟨t, c, rfl, h3⟩
    | [], h => cases h
    | [_], h => cases h
    | _ :: _ :: _ :: _, h => cases h
  | _ => cases h
theorem ratD_pos {d : PyData} (h : okR d = true) : 0 < (ratD d).2 := by
  unfold okR at h
  rcases Bool.or_eq_true_iff.mp h with h | h
  · obtain ⟨i, rfl⟩ := whole_int h
    show (0 : Int) < 1
    decide
  · obtain ⟨t, b, rfl, hb⟩ := isRat_form h
    show 0 < b
    omega
theorem low_pos {t b : Int} (h : 0 < b) : 0 < (low t b).2 := by
  have hg : 0 < Nat.gcd t.natAbs b.natAbs := Nat.gcd_pos_of_pos_right _ (by omega)
  have hd : (Nat.gcd t.natAbs b.natAbs : Int) ∣ b := Int.ofNat_dvd_left.mpr (Nat.gcd_dvd_right _ _)
  show 0 < b / (Nat.gcd t.natAbs b.natAbs : Int)
  generalize Nat.gcd t.natAbs b.natAbs = g at hg hd ⊢
  exact Int.ediv_pos_of_pos_of_dvd h (by omega) hd
theorem low_abs {t b : Int} : (low t b).1.natAbs ≤ t.natAbs ∧ (low t b).2.natAbs ≤ b.natAbs := ⟨Int.natAbs_ediv_le_natAbs t _, Int.natAbs_ediv_le_natAbs b _⟩
section
variable {P : Program} {w : World} {K : PySem.W.Frag} {mg : Str → Option Value} {base : Heap}
/-- ratio_of(x), x a ratio or a number -/
def spRat (K : PySem.W.Frag) : Sp := fun vs H Q _ => ∃ (x : V) (d : PyData), vs = [x] ∧ Dp K H x d ∧ okR d = true ∧ ∀ (T : Addr) (H' : Hp), Same H H' → SqT K H' T [.int (ratD d).1, .int (ratD d).2] → Q (.ref T) H'
theorem scRatioOf : FnScope ["value"] ["value"] (defScope s_ratio_of) := ⟨rfl, rfl, rfl, by decide +kernel, rfl, by decide +kernel, by decide +kernel⟩
theorem ok_ratioOf {f fW fR : Addr} {fd fdW fdR : FuncData} (F : Fun K "ratio_of" "ratio_of" s_ratio_of f fd) (FW : Fun K "_is_whole" "_is_whole" s__is_whole fW fdW) (FR : Fun K "is_ratio" "is_ratio" s_is_ratio fR fdR) (T : NmR mg)
    (mW : mg "_is_whole" = some (.ref fW)) (bW : Binds K fdW ["value"] []) (mR : mg "is_ratio" = some (.ref fR)) (bR : Binds K fdR ["value"] []) :
    FnOk P w K mg base CX0 3 f fd ["value"] (spRat K) := by
  refine F.ok scRatioOf (fun vs H Q E h => ?_) (fun cdv A outer s H vs Q E hr h => ?_)
  · obtain ⟨x, d, rfl, _⟩ := h
    rfl
  · obtain ⟨x, d, rfl, hx, ho, q⟩ := h
    refine ⟨_, pss_cons (ps_if (pt_val (pe_call (ok_whole FW T.w) (hr.mono (by omega)) (by rfl) mW FW.kp bW .nil pass0 (pa_cons (pv 0) pa_nil))) (pss_one (ps_ret (pe_tup (pa_cons (pv 0) (pa_cons pe_int pa_nil))))) pss_nil)
      (pss_cons (ps_if (pt_not (pt_val (pe_call (ok_isRat FR FW T mW bW) hr (by rfl) mR FR.kp bR .nil pass0 (pa_cons (pv 0) pa_nil)))) pss_false pss_nil)
      (pss_one (ps_ret (pv 0)))), ?_⟩
    refine ⟨_, rfl, x, d, rfl, hx, _, rfl, ?_⟩
    cases e1 : whole d with
    | true =>
      obtain ⟨i, rfl⟩ := whole_int e1
      cases hx
      exact iteT ⟨_, rfl, small_line (by show 2 ≤ 1000; decide), fun T hT => q T _ (same_upd hT) (SqT.of upd_same)⟩
    | false =>
      have e2 : isRat d = true := by
        unfold okR at ho
        rw [e1] at ho
        exact ho
      obtain ⟨t, b, rfl, _⟩ := isRat_form e2
      refine iteF ⟨_, rfl, x, _, rfl, hx, _, rfl, ?_⟩
      rw [e2]
      refine iteF ⟨_, rfl, ?_⟩
      obtain ⟨a, xs, rfl, hs, hd⟩ := dp_tup hx
      obtain ⟨y, z, rfl, h1, h2⟩ := dpAll2 hd
      cases dp_int h1
      cases dp_int h2
      exact q a H (Same.refl H) hs
end
end Lw

set_option maxRecDepth 100000
namespace Lw
open PySem PySem.Spec PyProof.Rows L2
open TL (numL)
open NumText (AllDigits digitsVal)
/-! ### texts of numbers and of ratios, by their signs -/
/-- the text of some signs -/
abbrev Tx (l : List Nat) : Str := ⟨l.toArray⟩
theorem tx_list (l : List Nat) : (Tx l).cps.toList = l := rfl
theorem tx_len (l : List Nat) : (Tx l).length = l.length := by simp [Str.length]
theorem tx_of (x : Str) : Tx x.cps.toList = x := rfl
theorem tx_app (a b : List Nat) : Tx a ++ Tx b = Tx (a ++ b) := SX.S_cat a b
theorem tx_inj {a b : List Nat} (h : Tx a = Tx b) : a = b := SX.S_inj h
theorem val_snoc (l : List Nat) (c : Nat) : digitsVal (l ++ [c]) = digitsVal l * 10 + (c - 48) := by
  unfold digitsVal
  rw [List.foldl_append]
  rfl
theorem digs_app {a b : List Nat} (h : AllDigits (a ++ b)) : AllDigits a ∧ AllDigits b := ⟨fun c hc => h c (List.mem_append_left _ hc), fun c hc => h c (List.mem_append_right _ hc)⟩
/-- no needless zero ahead -/
def NoZ (l : List Nat) : Prop := l = [48] ∨ l.head? ≠ some 48
theorem num_zero : numL 0 = [48] := TL.numL_lt (by decide)
theorem num_back : ∀ (k : Nat) (l : List Nat), l.length = k → AllDigits l → l ≠ [] → NoZ l → numL (digitsVal l) = l := by
  intro k
  induction k with
  | zero => intro l hl _ hn; exact absurd (List.length_eq_zero_iff.mp hl) hn
  | succ k ih =>
    intro l hl hd hn hz
    obtain ⟨i, c, rfl⟩ : ∃ i c, l = i ++ [c] := ⟨l.dropLast, l.getLast hn, (List.dropLast_concat_getLast hn).symm⟩
    have hl : i.length = k := by simpa using hl
    obtain ⟨hi, hc⟩ := digs_app hd
    have hc := hc c (List.mem_singleton.mpr rfl)
    rw [val_snoc]
    by_cases hi0 : i = []
    · subst hi0
      show numL (0 * 10 + (c - 48)) = [c]
      rw [TL.numL_lt (by omega), show 48 + (0 * 10 + (c - 48)) = c by omega]
    · have hz2 : i.head? ≠ some 48 := by
        rcases hz with z | z
        · exfalso
          have := congrArg List.length z
          rw [List.length_append] at this
          have h1 : i.length ≠ 0 := fun z => hi0 (List.length_eq_zero_iff.mp z)
          have w : i.length + 1 = 1 := this
          omega
        · rw [List.head?_append] at z
          cases i with
          | nil => exact absurd rfl hi0
          | cons d r => exact z
      have e := ih i hl hi hi0 (.inr hz2)
      have h1 : 1 ≤ digitsVal i := by
        by_cases z : digitsVal i = 0
        · rw [z, num_zero] at e
          rw [← e] at hz2
          exact absurd rfl hz2
        · omega
      rw [TL.numL_step (by omega), show (digitsVal i * 10 + (c - 48)) / 10 = digitsVal i by omega, show 48 + (digitsVal i * 10 + (c - 48)) % 10 = c by omega, e]
theorem num_noz (n : Nat) : NoZ (numL n) := by
  induction n using Nat.strongRecOn with
  | _ n ih =>
    by_cases h : n < 10
    · rw [TL.numL_lt h]
      by_cases z : n = 0
      · exact .inl (by rw [z])
      · exact .inr (by show some (48 + n) ≠ some 48; intro y; have := Option.some.inj y; omega)
    · rw [TL.numL_step (by omega)]
      refine .inr ?_
      have hn := TL.numL_ne (n / 10)
      rw [List.head?_append]
      rcases ih (n / 10) (by omega) with z | z
      · have e : n / 10 = 0 := TL.numL_inj (z.trans num_zero.symm)
        omega
      · cases q : numL (n / 10) with
        | nil => exact absurd q hn
        | cons d r =>
          rw [q] at z
          exact z
/-- the text of a ratio -/
def topL (t : Int) : List Nat := (if t < 0 then [45] else []) ++ numL t.natAbs
def textL (t b : Int) : List Nat := topL t ++ (if b = 1 then [] else 47 :: numL b.natAbs)
theorem num_47 (n : Nat) : 47 ∉ numL n := TL.numL_free (.inl (by decide))
theorem num_45 (n : Nat) : 45 ∉ numL n := TL.numL_free (.inl (by decide))
theorem top_47 (t : Int) : 47 ∉ topL t := by
  unfold topL
  intro h
  rcases List.mem_append.mp h with h | h
  · split at h
    · exact absurd (List.mem_singleton.mp h) (by decide)
    · cases h
  · exact num_47 _ h
theorem top_ne (t : Int) : topL t ≠ [] := by
  unfold topL
  intro h
  exact TL.numL_ne _ (List.append_eq_nil_iff.mp h).2
theorem num_head {n : Nat} : (numL n).head? ≠ some 45 := fun h => num_45 n (List.mem_of_head? h)
theorem top_inj {s t : Int} (h : topL s = topL t) : s = t := by
  unfold topL at h
  by_cases hs : s < 0 <;> by_cases ht : t < 0
  · rw [if_pos hs, if_pos ht] at h
    have := TL.numL_inj (List.cons.inj h).2
    omega
  · rw [if_pos hs, if_neg ht] at h
    have z := congrArg List.head? h
    exact absurd z.symm num_head
  · rw [if_neg hs, if_pos ht] at h
    have z := congrArg List.head? h
    exact absurd z num_head
  · rw [if_neg hs, if_neg ht] at h
    have := TL.numL_inj (show numL s.natAbs = numL t.natAbs from h)
    omega
/-- some signs are the text of a ratio -/
structure IsR (t b : Int) (l : List Nat) : Prop where
  pos : 1 ≤ b
  low : Nat.gcd t.natAbs b.natAbs = 1
  txt : l = textL t b
theorem cut_one {a b c d : List Nat} (ha : 47 ∉ a) (hc : 47 ∉ c) (h : a ++ 47 :: b = c ++ 47 :: d) : a = c ∧ b = d := by
  induction a generalizing c with
  | nil =>
    cases c with
    | nil => exact ⟨rfl, (List.cons.inj h).2⟩
    | cons x c => exact absurd (List.mem_cons.mpr (.inl (List.cons.inj h).1)) hc
  | cons x a ih =>
    cases c with
    | nil => exact absurd (List.mem_cons.mpr (.inl (List.cons.inj h).1.symm)) ha
    | cons y c =>
      obtain ⟨e, h⟩ := List.cons.inj h
      obtain ⟨e1, e2⟩ := ih (fun z => ha (List.mem_cons_of_mem _ z)) (fun z => hc (List.mem_cons_of_mem _ z)) h
      exact ⟨by rw [e, e1], e2⟩
theorem IsR.uniq {t b s c : Int} {l : List Nat} (h : IsR t b l) (g : IsR s c l) : t = s ∧ b = c := by
  have e := h.txt.symm.trans g.txt
  unfold textL at e
  have hb := h.pos
  have hc := g.pos
  by_cases h1 : b = 1 <;> by_cases g1 : c = 1
  · rw [if_pos h1, if_pos g1, List.append_nil, List.append_nil] at e
    exact ⟨top_inj e, h1.trans g1.symm⟩
  · rw [if_pos h1, if_neg g1, List.append_nil] at e
    exact absurd (by rw [e]; exact List.mem_append_right _ List.mem_cons_self) (top_47 t)
  · rw [if_neg h1, if_pos g1, List.append_nil] at e
    exact absurd (by rw [← e]; exact List.mem_append_right _ List.mem_cons_self) (top_47 s)
  · rw [if_neg h1, if_neg g1] at e
    obtain ⟨e1, e2⟩ := cut_one (top_47 t) (top_47 s) e
    have := TL.numL_inj e2
    exact ⟨top_inj e1, by omega⟩
/-! ### str of a number -/
theorem str_int (t : Int) : Str.ofString (toString t) = Tx (topL t) := by
  refine TL.ext_tl ?_
  show (Str.ofString (toString t)).cps.toList = topL t
  unfold topL
  cases t with
  | ofNat n =>
    rw [if_neg (by exact Int.not_lt.mpr (Int.natCast_nonneg n))]
    exact TL.tl_num n
  | negSucc n =>
    rw [if_pos (Int.negSucc_lt_zero n)]
    have e : toString (Int.negSucc n) = "-" ++ toString (n + 1) := rfl
    rw [e]
    have e2 := TL.tl_num (n + 1)
    have e3 : (Str.ofString (toString ((n + 1 : Nat) : Int))) = Str.ofString (toString (n + 1)) := rfl
    rw [e3] at e2
    have e4 : TL.tl (Str.ofString ("-" ++ toString (n + 1))) = 45 :: TL.tl (Str.ofString (toString (n + 1))) := by
      show (Str.ofString _).cps.toList = 45 :: (Str.ofString _).cps.toList
      rw [PyProof.Rows.signs_ofString, PyProof.Rows.signs_ofString, String.toList_append]
      rfl
    exact e4.trans (by rw [e2]; rfl)
end Lw

set_option maxRecDepth 100000
set_option linter.unusedVariables false
namespace Lw
open PySem PySem.Spec PyProof.Rows L2 VG
open TL (numL)
open NumText (AllDigits digitsVal)
def ratT (s : Int × Int) : PyData := .tuple [.int s.1, .int s.2]
theorem rat_gcd {s : Int × Int} (h : isRat (ratT s) = true) : 0 < s.2 ∧ Nat.gcd s.1.natAbs s.2.natAbs = 1 := by
  have h : (true && (true && (decide (1 ≤ s.2) && decide (Nat.gcd s.1.natAbs s.2.natAbs = 1)))) = true := h
  simp only [Bool.and_eq_true, decide_eq_true_eq, true_and] at h
  exact ⟨by omega, h.2⟩
/-- lengths of the law -/
structure Ln (s : Int × Int) : Prop where
  rat : isRat (ratT s) = true
  nn : 0 ≤ s.1
  den : s.2 ≤ 60
  top : s.1 ≤ 1000000
theorem Ln.pos {s : Int × Int} (h : Ln s) : 0 < s.2 := (rat_gcd h.rat).1
def lnB (s : Int × Int) : Bool := isRat (ratT s) && (decide (0 ≤ s.1) && (decide (s.2 ≤ 60) && decide (s.1 ≤ 1000000)))
theorem lnB_ok {s : Int × Int} (h : lnB s = true) : Ln s := by
  unfold lnB at h
  simp only [Bool.and_eq_true, decide_eq_true_eq] at h
  exact ⟨h.1, h.2.1, h.2.2.1, h.2.2.2⟩
theorem low_all : (List.range 13).all (fun t => (List.range 5).all fun b => lnB (low (t : Int) (1 + (b : Int)))) = true := by decide +kernel
theorem low_ln {t b : Int} (t0 : 0 ≤ t) (t1 : t < 13) (b0 : 0 ≤ b) (b1 : b < 5) : Ln (low t (1 + b)) := by
  obtain ⟨t, rfl⟩ := Int.eq_ofNat_of_zero_le t0
  obtain ⟨b, rfl⟩ := Int.eq_ofNat_of_zero_le b0
  exact lnB_ok (List.all_eq_true.mp (List.all_eq_true.mp low_all t (List.mem_range.mpr (by omega))) b (List.mem_range.mpr (by omega)))
theorem one_ln {t : Int} (t0 : 0 ≤ t) (t1 : t ≤ 1000000) : Ln (t, 1) := by
  have e : Nat.gcd t.natAbs (1 : Int).natAbs = 1 := Nat.gcd_one_right _
  refine ⟨?_, t0, show (1 : Int) ≤ 60 by decide, t1⟩
  show (true && (true && (decide ((1 : Int) ≤ 1) && decide (Nat.gcd t.natAbs (1 : Int).natAbs = 1)))) = true
  rw [decide_eq_true e]
  rfl
section
variable {P : Program} {w : World} {K : PySem.W.Frag} {mg : Str → Option Value} {base : Heap}
theorem scFig : FnScope ["number", "pieces", "piece"] ["number"] (defScope s__figures) := ⟨rfl, rfl, rfl, by decide +kernel, rfl, by decide +kernel, by decide +kernel⟩
def spFig : Sp := fun vs H Q _ => ∃ n : Nat, vs = [.int n] ∧ n < 10 ^ 60 ∧ ∀ H', Same H H' → Q (.str (Tx (numL n))) H'
theorem log_60 {n : Nat} (h : n < 10 ^ 60) : (n : Int).natAbs.log2 < 1920 := by
  rw [Int.natAbs_natCast]
  have : n < 2 ^ 1920 := Nat.lt_of_lt_of_le h (by decide)
  exact PySem.Flt.log2_lt_of (by decide) this
theorem num_60 {n : Nat} (h : n < 10 ^ 60) : (numL n).length ≤ 60 := TL.numL_len (by decide) h
theorem ok_fig {f : Addr} {fd : FuncData} (F : Fun K "_figures" "_figures" s__figures f fd) (ms : mg "str" = none) : FnOk P w K mg base CX0 1 f fd ["number"] spFig := by
  refine F.ok scFig (fun vs H Q E h => ?_) (fun cdv A outer s H vs Q E hr h => ?_)
  · obtain ⟨n, rfl, _⟩ := h
    rfl
  · obtain ⟨n, rfl, hn, q⟩ := h
    have nd := scFig.nd
    refine ⟨_, pss_cons (ps_set (i := 1) nd rfl (Or.inl rfl) (pe_lst pa_nil))
      (pss_cons (ps_while PassesOwn.never (pt_cmpR op_ge (pv 0) (pe_op op_pow pe_int pe_int) (nomark _)) pss_false)
      (pss_cons (ps_expr (pe_bm PySem.F.plainAttrs_list PySem.F.slot_list_append PySem.F.type_list_append mt_append (pv 1) (pa_cons (pe_callTy call_str_int (by rfl) ms (by decide +kernel) (pa_cons (pv 0) pa_nil)) pa_nil)))
      (pss_one (ps_ret (pe_join pe_str (pe_revL (pv 1))))))), ?_⟩
    refine ⟨by show 0 ≤ sizeLine; decide, fun D hD => ?_⟩
    have sm1 := same_upd (o := .lst []) hD
    dsimp only [gName, tSeq]
    refine while_by (fun σ G => G = upd H D (.lst []) ∧ σ = [some (.int n), some (.ref D), none]) (fun _ _ => 0) ⟨rfl, rfl⟩ ?_ ?_
    · rintro σ G ⟨rfl, rfl⟩
      have hf : decide ((10 : Int) ^ (60 : Int).toNat ≤ (n : Int)) = false := decide_eq_false (by
        have : ((10 : Int) ^ (60 : Int).toNat) = ((10 ^ 60 : Nat) : Int) := by decide
        omega)
      refine ⟨_, rfl, _, _, rfl, rfl, ⟨by decide, by decide, by decide⟩, _, _, rfl, rfl, _, rfl, ?_⟩
      rw [hf]
      refine iteF ?_
      refine ⟨_, rfl, .inl ⟨rfl, _, SqL.of upd_same⟩, _, rfl, _, rfl, log_60 hn, D, [], _, rfl, rfl, upd_same, by show 0 < sizeLine; decide, ?_⟩
      refine ⟨⟨_, rfl⟩, _, rfl, D, _, rfl, SqL.of upd_same, fun p hp => ?_⟩
      refine ⟨_, p, [Str.ofString (toString (n : Int))], rfl, rfl, .inl (SqL.of upd_same), ?_, ?_⟩
      · show (Str.ofString (toString (n : Int))).length + 0 + 1 * 0 ≤ 16777216
        rw [str_int, tx_len]
        have z := num_60 hn
        unfold topL
        rw [if_neg (by omega)]
        show (numL (n : Int).natAbs).length + 0 + 1 * 0 ≤ 16777216
        rw [Int.natAbs_natCast]
        omega
      · have e : Txt.join (Str.ofString "") [Str.ofString (toString (n : Int))] = Tx (numL n) := by
          rw [TL.join_eq]
          show Str.ofString (toString (n : Int)) = _
          rw [str_int]
          unfold topL
          rw [if_neg (by omega), Int.natAbs_natCast]
          rfl
        rw [e]
        refine q _ fun b o h => ?_
        have nD := ne_of_none h hD
        have h1 : upd (upd H D (.lst [])) D (.lst ([] ++ [V.str (Str.ofString (toString (n : Int)))])) b = some o := by rw [upd_ne nD, upd_ne nD]; exact h
        rw [upd_ne (ne_of_none h1 hp)]
        exact h1
    · rintro σ G Q1 Q2 hq ⟨v, e1, i, j, e2, e3, c, i2, j2, e4, e5, b, e6, z⟩
      exact ⟨v, e1, i, j, e2, e3, c, i2, j2, e4, e5, b, e6, hq _ _ z⟩
/-- the text of a ratio -/
theorem scText : FnScope ["value", "top", "bottom", "sign", "text"] ["value"] (defScope s_ratio_text) := ⟨rfl, rfl, rfl, by decide +kernel, rfl, by decide +kernel, by decide +kernel⟩
def spText (K : PySem.W.Frag) : Sp := fun vs H Q _ => ∃ (x : V) (d : PyData), vs = [x] ∧ Dp K H x d ∧ okR d = true ∧ (ratD d).1.natAbs < 10 ^ 60 ∧ (ratD d).2.natAbs < 10 ^ 60 ∧ ∀ H', Same H H' → Q (.str (Tx (textL (ratD d).1 (ratD d).2))) H'
theorem okR_pos {d : PyData} (h : okR d = true) : 1 ≤ (ratD d).2 := by
  unfold okR at h
  cases e : whole d with
  | true =>
    obtain ⟨i, rfl⟩ := whole_int e
    exact Int.le_refl _
  | false =>
    rw [e] at h
    obtain ⟨t, b, rfl, hb⟩ := isRat_form h
    exact hb
theorem fits_line {n : Nat} (h : n ≤ 1000) : n ≤ sizeLine := Nat.le_trans h (by decide)
theorem ok_text {f fT fF : Addr} {fd fdT fdF : FuncData} (F : Fun K "ratio_text" "ratio_text" s_ratio_text f fd) (ma : mg "abs" = none) (GT : FnOk P w K mg base CX0 3 fT fdT ["value"] (spRat K)) (mT : mg "ratio_of" = some (.ref fT)) (kT : PySem.W.keepIn K (.ref fT) = true) (bT : Binds K fdT ["value"] [])
    (GF : FnOk P w K mg base CX0 1 fF fdF ["number"] spFig) (mF : mg "_figures" = some (.ref fF)) (kF : PySem.W.keepIn K (.ref fF) = true) (bF : Binds K fdF ["number"] []) :
    FnOk P w K mg base CX0 4 f fd ["value"] (spText K) := by
  refine F.ok scText (fun vs H Q E h => ?_) (fun cdv A outer s H vs Q E hr h => ?_)
  · obtain ⟨x, d, rfl, _⟩ := h
    rfl
  · obtain ⟨x, d, rfl, hx, ok, b1, b2, q⟩ := h
    have nd := scText.nd
    refine ⟨_, pss_cons (ps_asg (pe_call GT hr (by rfl) mT kT bT .nil pass0 (pa_cons (pv 0) pa_nil)) (pg_tup (by rfl) (pgs_cons (pg_name (i := 1) nd rfl (Or.inl rfl)) (pgs_cons (pg_name (i := 2) nd rfl (Or.inl rfl)) pgs_nil))))
      (C8.pss_cut (ps_set (i := 3) nd rfl (Or.inl rfl) (pe_ifExp (pt_cmpR op_lt (pv 1) pe_int (nomark _)) pe_str pe_str))
      (pss_cons (ps_set (i := 4) nd rfl (Or.inl rfl) (pe_op op_add_str (pv 3) (pe_call GF (hr.mono (by decide)) (by rfl) mF kF bF .nil pass0 (pa_cons (pe_callB call_abs (by rfl) ma (by decide +kernel) (pa_cons (pv 1) pa_nil)) pa_nil))))
      (pss_cons (ps_if (pt_cmpR op_eq (pv 2) pe_int (nomark _)) (pss_one (ps_ret (pv 4))) pss_nil)
      (pss_one (ps_ret (pe_op op_add_str (pe_op op_add_str (pv 4) pe_str) (pe_call GF (hr.mono (by decide)) (by rfl) mF kF bF .nil pass0 (pa_cons (pv 2) pa_nil)))))))), ?_⟩
    refine ⟨_, rfl, x, d, rfl, hx, ok, fun T H1 sm1 hT => ?_⟩
    · have hp := okR_pos ok
      generalize ratD d = s at *
      obtain ⟨t, b⟩ := s
      dsimp only at *
      refine ⟨T, _, rfl, hT, rfl, _, _, rfl, _, _, rfl, rfl, ?_⟩
      refine ⟨fun σ G => σ = [some x, some (.int t), some (.int b), some (.str (Tx (if t < 0 then [45] else []))), none] ∧ G = H1, ?_, ?_⟩
      · refine ⟨_, rfl, _, _, rfl, rfl, _, rfl, ite2 (fun h => ?_) (fun h => ?_)⟩
        · have h : t < 0 := of_decide_eq_true h
          rw [if_pos h]
          exact ⟨rfl, rfl⟩
        · have h : ¬ t < 0 := fun z => h (decide_eq_true z)
          rw [if_neg h]
          exact ⟨rfl, rfl⟩
      · rintro σ G ⟨rfl, rfl⟩
        have ab : (if t < 0 then -t else t) = (t.natAbs : Int) := by
          by_cases z : t < 0
          · rw [if_pos z]; omega
          · rw [if_neg z]; omega
        refine ⟨_, rfl, _, rfl, t, rfl, t.natAbs, by rw [ab]; rfl, b1, fun H2 sm2 => ?_⟩
        have l1 := num_60 b1
        have l2 := num_60 b2
        refine ⟨_, _, rfl, rfl, ?_, ?_⟩
        · refine fits_line ?_
          rw [tx_len, tx_len]
          split <;> simp <;> omega
        rw [tx_app]
        refine ⟨_, rfl, rfl, _, rfl, ite2 (fun h => ?_) (fun h => ?_)⟩
        · have h : b = 1 := V.int.inj (of_decide_eq_true h)
          refine ⟨_, rfl, ?_⟩
          have e : textL t b = (if t < 0 then [45] else []) ++ numL t.natAbs := by
            unfold textL topL
            rw [if_pos h, List.append_nil]
          rw [← e]
          exact q _ (sm1.trans sm2)
        · have h : b ≠ 1 := fun z => h (decide_eq_true (by rw [z]))
          refine ⟨_, rfl, _, _, rfl, rfl, ?_, _, rfl, b.natAbs, by rw [show ((b.natAbs : Nat) : Int) = b by omega]; rfl, b2, fun H3 sm3 => ?_⟩
          · refine fits_line ?_
            rw [tx_len]
            show _ + 1 ≤ 1000
            rw [List.length_append]
            split <;> simp <;> omega
          · have e1 : Tx ((if t < 0 then [45] else []) ++ numL t.natAbs) ++ (Str.ofString "/") = Tx ((if t < 0 then [45] else []) ++ numL t.natAbs ++ [47]) := tx_app _ [47]
            rw [e1]
            refine ⟨_, _, rfl, rfl, ?_, ?_⟩
            · refine fits_line ?_
              rw [tx_len, tx_len, List.length_append, List.length_append]
              split <;> simp <;> omega
            · rw [tx_app]
              have e : textL t b = (if t < 0 then [45] else []) ++ numL t.natAbs ++ [47] ++ numL b.natAbs := by
                unfold textL topL
                rw [if_neg h, List.append_assoc, List.append_assoc, List.append_assoc]
                rfl
              rw [← e]
              exact q _ ((sm1.trans sm2).trans sm3)
/-- the law's own texts -/
theorem scPairL : FnScope ["_law_value"] ["_law_value"] (defScope s__law_pair) := ⟨rfl, rfl, rfl, by decide +kernel, rfl, by decide +kernel, by decide +kernel⟩
def spPairL (K : PySem.W.Frag) : Sp := fun vs H Q _ => ∃ (x : V) (d : PyData), vs = [x] ∧ Dp K H x d ∧ okR d = true ∧ ∀ (T : Addr) (H' : Hp), Same H H' → SqT K H' T [.int (ratD d).1, .int (ratD d).2] → Q (.ref T) H'
theorem ok_pairL {f : Addr} {fd : FuncData} (F : Fun K "_law_pair" "_law_pair" s__law_pair f fd) (T : NmW mg) : FnOk P w K mg base CX0 1 f fd ["_law_value"] (spPairL K) := by
  refine F.ok scPairL (fun vs H Q E h => ?_) (fun cdv A outer s H vs Q E hr h => ?_)
  · obtain ⟨x, d, rfl, _⟩ := h
    rfl
  · obtain ⟨x, d, rfl, hd, ok, q⟩ := h
    refine ⟨_, pss_one (ps_ret (pe_ifExp (pt_val (pe_callB call_isi (by rfl) T.isi (by decide +kernel) (pa_cons (pv 0) (pa_cons (pe_bltn (v := .ty "int") (by rfl) T.int (by decide +kernel) rfl) pa_nil)))) (pe_tup (pa_cons (pv 0) (pa_cons pe_int pa_nil))) (pv 0))), ?_⟩
    unfold okR at ok
    cases e : whole d with
    | true =>
      obtain ⟨i, rfl⟩ := whole_int e
      cases hd
      refine ⟨_, rfl, _, _, _, _, true, rfl, .ty "int", .base (.int i), kit_ty (by decide +kernel), _, rfl, iteT ⟨_, rfl, by show 2 ≤ sizeLine; decide, fun T0 hT0 => ?_⟩⟩
      exact q T0 _ (same_upd hT0) (SqT.of upd_same)
    | false =>
      rw [e] at ok
      obtain ⟨t, b, rfl, _⟩ := isRat_form ok
      obtain ⟨a, xs, rfl, hs, hds⟩ := dp_tup hd
      cases hds with
      | cons h1 h2 => cases h2 with
        | cons h2 h3 =>
          cases h3
          cases h1
          cases h2
          exact ⟨_, rfl, _, _, _, _, false, rfl, .ty "int", tyx_tup hs, kit_ty (by decide +kernel), _, rfl, iteF ⟨_, rfl, q _ H (Same.refl H) hs⟩⟩
theorem scTextL : FnScope ["_law_value", "_law_top", "_law_bottom"] ["_law_value"] (defScope s__law_text) := ⟨rfl, rfl, rfl, by decide +kernel, rfl, by decide +kernel, by decide +kernel⟩
theorem top_60 {t : Int} (h : t.natAbs < 10 ^ 60) : (topL t).length ≤ 61 := by
  have l := num_60 h
  unfold topL
  rw [List.length_append]
  split <;> simp <;> omega
theorem text_60 {t b : Int} (h : t.natAbs < 10 ^ 60) (g : b.natAbs < 10 ^ 60) : (textL t b).length ≤ 122 := by
  have l := num_60 g
  have m := top_60 h
  unfold textL
  rw [List.length_append]
  split <;> simp <;> omega
/-- a text as it is, a number by its figures -/
def spTextL (K : PySem.W.Frag) : Sp := fun vs H Q _ => (∃ z : Str, vs = [.str z] ∧ Q (.str z) H) ∨ ∃ (x : V) (d : PyData), vs = [x] ∧ Dp K H x d ∧ okR d = true ∧ (ratD d).1.natAbs < 10 ^ 60 ∧ (ratD d).2.natAbs < 10 ^ 60 ∧ ∀ H', Same H H' → Q (.str (Tx (textL (ratD d).1 (ratD d).2))) H'
theorem ok_textL {f fP : Addr} {fd fdP : FuncData} (F : Fun K "_law_text" "_law_text" s__law_text f fd) (ti : mg "isinstance" = none) (ts : mg "str" = none) (GP : FnOk P w K mg base CX0 1 fP fdP ["_law_value"] (spPairL K)) (mP : mg "_law_pair" = some (.ref fP)) (kP : PySem.W.keepIn K (.ref fP) = true) (bP : Binds K fdP ["_law_value"] []) :
    FnOk P w K mg base CX0 2 f fd ["_law_value"] (spTextL K) := by
  refine F.ok scTextL (fun vs H Q E h => ?_) (fun cdv A outer s H vs Q E hr h => ?_)
  · rcases h with ⟨z, rfl, _⟩ | ⟨x, d, rfl, _⟩ <;> rfl
  · have nd := scTextL.nd
    refine ⟨_, pss_cons (ps_if (pt_val (pe_callB call_isi (by rfl) ti (by decide +kernel) (pa_cons (pv 0) (pa_cons (pe_bltn (v := .ty "str") (by rfl) ts (by decide +kernel) rfl) pa_nil)))) (pss_one (ps_ret (pv 0))) pss_nil)
    (pss_cons (ps_asg (pe_call GP hr (by rfl) mP kP bP .nil pass0 (pa_cons (pv 0) pa_nil)) (pg_tup (by rfl) (pgs_cons (pg_name (i := 1) nd rfl (Or.inl rfl)) (pgs_cons (pg_name (i := 2) nd rfl (Or.inl rfl)) pgs_nil))))
    (pss_one (ps_ret (pe_ifExp (pt_cmpR op_eq (pv 2) pe_int (nomark _)) (pe_callTy call_str_int (by rfl) ts (by decide +kernel) (pa_cons (pv 1) pa_nil))
      (pe_op op_add_str (pe_op op_add_str (pe_callTy call_str_int (by rfl) ts (by decide +kernel) (pa_cons (pv 1) pa_nil)) pe_str) (pe_callTy call_str_int (by rfl) ts (by decide +kernel) (pa_cons (pv 2) pa_nil))))))), ?_⟩
    rcases h with ⟨z, rfl, q⟩ | ⟨x, d, rfl, hd, ok, b1, b2, q⟩
    · exact ⟨_, rfl, _, _, _, _, true, rfl, .ty "str", .base (.str z), kit_ty (by decide +kernel), _, rfl, iteT ⟨_, rfl, q⟩⟩
    · have isi : ∃ t, TyX K H x t ∧ PySem.W.kitOne K t (.type "str") = some false := by
        unfold okR at ok
        cases e : whole d with
        | true =>
          obtain ⟨i, rfl⟩ := whole_int e
          cases hd
          exact ⟨_, .base (.int i), kit_ty (by decide +kernel)⟩
        | false =>
          rw [e] at ok
          obtain ⟨t, b, rfl, _⟩ := isRat_form ok
          obtain ⟨a, xs, rfl, hs, hds⟩ := dp_tup hd
          exact ⟨_, tyx_tup hs, kit_ty (by decide +kernel)⟩
      obtain ⟨ty, t1, t2⟩ := isi
      have hp := okR_pos ok
      refine ⟨_, rfl, _, _, _, _, false, rfl, .ty "str", t1, t2, _, rfl, iteF ?_⟩
      refine ⟨_, rfl, x, d, rfl, hd, ok, fun T0 H1 sm hT => ?_⟩
      generalize ratD d = s at *
      obtain ⟨t, b⟩ := s
      dsimp only at *
      have l1 : t.natAbs.log2 < 1920 := PySem.Flt.log2_lt_of (by decide) (Nat.lt_of_lt_of_le b1 (by decide))
      have l2 : b.natAbs.log2 < 1920 := PySem.Flt.log2_lt_of (by decide) (Nat.lt_of_lt_of_le b2 (by decide))
      refine ⟨T0, _, rfl, hT, rfl, _, _, rfl, _, _, rfl, rfl, ?_⟩
      refine ⟨_, rfl, rfl, _, rfl, ite2 (fun h => ?_) (fun h => ?_)⟩
      · have h : b = 1 := V.int.inj (of_decide_eq_true h)
        refine ⟨_, rfl, t, rfl, l1, ?_⟩
        rw [str_int]
        have e : textL t b = topL t := by
          unfold textL
          rw [if_pos h, List.append_nil]
        rw [← e]
        exact q _ sm
      · have h : b ≠ 1 := fun z => h (decide_eq_true (by rw [z]))
        have k1 := top_60 b1
        have k2 := num_60 b2
        refine ⟨_, rfl, t, rfl, l1, _, _, rfl, rfl, ?_, _, rfl, b, rfl, l2, _, _, rfl, rfl, ?_, ?_⟩
        · refine fits_line ?_
          rw [str_int, tx_len]
          show _ + 1 ≤ 1000
          omega
        · refine fits_line ?_
          rw [str_int, str_int]
          have e1 : Tx (topL t) ++ (Str.ofString "/") = Tx (topL t ++ [47]) := tx_app _ [47]
          rw [e1, tx_len, tx_len, List.length_append]
          have := top_60 b2
          simp
          omega
        · rw [str_int, str_int]
          have e1 : Tx (topL t) ++ (Str.ofString "/") = Tx (topL t ++ [47]) := tx_app _ [47]
          have e : textL t b = topL t ++ [47] ++ topL b := by
            unfold textL
            rw [if_neg h]
            have : topL b = numL b.natAbs := by
              unfold topL
              rw [if_neg (by omega)]
              rfl
            rw [this, List.append_assoc]
            rfl
          rw [e1, tx_app, ← e]
          exact q _ sm
end
end Lw

set_option maxRecDepth 100000
set_option linter.unusedVariables false
namespace Lw
open PySem PySem.Spec PyProof.Rows L2 VG
theorem Src.ne1 {H : Hp} {p q D : Addr} {cells : List Int} (h : Src H p q cells) (e : H D = none) : D ≠ p := fun z => by
  obtain ⟨i, c, sd, n, hp, _⟩ := h.ex
  rw [z, hp] at e
  cases e
theorem Src.ne2 {H : Hp} {p q D : Addr} {cells : List Int} (h : Src H p q cells) (e : H D = none) : D ≠ q := fun z => by
  rw [z, h.cs] at e
  cases e
theorem Src.over {H : Hp} {p q D : Addr} {cells : List Int} {o : HO} (h : Src H p q cells) (n1 : D ≠ p) (n2 : D ≠ q) : Src (upd H D o) p q cells := by
  obtain ⟨i, c, sd, n, hp, h1, h2⟩ := h.ex
  exact ⟨⟨i, c, sd, n, by rw [upd_ne n1.symm]; exact hp, h1, h2⟩, by rw [upd_ne n2.symm]; exact h.cs, h.few, h.ne⟩
theorem Src.exs {H H' : Hp} {p q : Addr} {cells : List Int} (h : Src H p q cells) (b : But p H H') : Exs [p] H H' := Exs.but List.mem_cons_self b
theorem perm_ins {α : Type} {ys zs : List α} {y : α} {i : Nat} (h : ys.Perm zs) : (ys.take i ++ [y] ++ ys.drop i).Perm (zs ++ [y]) := by
  have e : ys.take i ++ [y] ++ ys.drop i = ys.take i ++ y :: ys.drop i := by rw [List.append_assoc]; rfl
  rw [e]
  refine List.perm_middle.trans ?_
  rw [List.take_append_drop]
  exact (List.perm_append_singleton y ys).symm.trans (h.append_right [y])
section
variable {P : Program} {w : World} {K : PySem.W.Frag} {mg : Str → Option Value} {base : Heap}
def spMixed (K : PySem.W.Frag) : Sp := fun vs H Q _ => ∃ (p q T : Addr) (cells : List Int) (xs : List V), vs = [.ref p, .ref T] ∧ Src H p q cells ∧ SqL K (wos [p] H) T xs ∧ xs.length ≤ 100 ∧
  ∀ (L : Addr) (ys : List V) (H' : Hp), ys.Perm xs → H L = none → H' L = some (.lst ys) → Src H' p q cells → Exs [p] H H' → Q (.ref L) H'
abbrev NM : List Str := ["_law_src", "_law_things", "_law_found", "_law_thing"]
theorem scMixed : FnScope NM ["_law_src", "_law_things"] (defScope s__law_mixed) := ⟨rfl, rfl, rfl, by decide +kernel, rfl, by decide +kernel, by decide +kernel⟩
theorem ok_mixed {f fD : Addr} {fd fdD : FuncData} (F : Fun K "_law_mixed" "_law_mixed" s__law_mixed f fd) (T : Nm mg) (GD : FnOk P w K mg base CX0 1 fD fdD ["_law_src", "_law_many"] spDraw) (mD : mg "_law_draw" = some (.ref fD)) (kD : PySem.W.keepIn K (.ref fD) = true) (bD : Binds K fdD ["_law_src", "_law_many"] []) :
    FnOk P w K mg base CX0 2 f fd ["_law_src", "_law_things"] (spMixed K) := by
  refine F.ok scMixed (fun vs H Q E h => ?_) (fun cdv A outer s H vs Q E hr h => ?_)
  · obtain ⟨p, q, T, cells, xs, rfl, _⟩ := h
    rfl
  · obtain ⟨p, q, Tb, cells, xs, rfl, hS, hT, hz, k⟩ := h
    have nd := scMixed.nd
    refine ⟨_, pss_cons (ps_set (i := 2) nd rfl (Or.inl rfl) (pe_lst pa_nil))
      (pss_cons (ps_for PassesOwn.never rfl (pi_list (pv 1)) (pg_name (i := 3) nd rfl (Or.inl rfl))
        (pss_one (ps_expr (pe_bm PySem.F.plainAttrs_list PySem.F.slot_list_insert PySem.F.type_list_insert mt_insert (pv 2) (pa_cons (pe_call GD hr (by rfl) mD kD bD .nil pass0 (pa_cons (pv 0) (pa_cons (pe_op op_add (pe_callB call_len_seq (by rfl) T.len PySem.boot_len (pa_cons (pv 2) pa_nil)) pe_int) pa_nil))) (pa_cons (pv 3) pa_nil))))))
      (pss_one (ps_ret (pv 2)))), ?_⟩
    refine ⟨by decide, fun L hL => ?_⟩
    have n1 := hS.ne1 hL
    have n2 := hS.ne2 hL
    have mL := same_upd (o := .lst []) hL
    have sq : ∀ {G : Hp}, Exs [p] H G → SqL K G Tb xs := fun e => Same.seq (e.trans wos_sub) hT
    have stp : ∀ {G G' : Hp}, Exs [p] H G → (∀ b, b ≠ L → b ≠ p → G' b = G b) → Exs [p] H G' := fun {G G'} e h b o z => by
      by_cases y : b ∈ [p]
      · rw [wos_in y] at z
        cases z
      · have nb : b ≠ p := fun t => y (List.mem_singleton.mpr t)
        have nL : b ≠ L := fun t => by
          rw [wos_out y, t, hL] at z
          cases z
        have := e b o z
        rw [wos_out y] at this ⊢
        rw [h b nL nb]
        exact this
    refine ⟨_, rfl, Tb, rfl, ⟨_, sq (Exs.of mL)⟩, for_list (K := K) (a := Tb) (xs := xs) (fun i σ G => ∃ (o3 : Option V) (ys : List V), σ = [some (.ref p), some (.ref Tb), some (.ref L), o3] ∧ Src G p q cells ∧ Exs [p] H G ∧ G L = some (.lst ys) ∧ ys.Perm (xs.take i)) ⟨_, [], rfl, hS.over n1 n2, Exs.of mL, upd_same, .nil⟩ (fun i σ G _ ⟨_, _, _, _, e, _⟩ => sq e) ?_ ?_⟩
    · rintro i x σ G hx ⟨o3, ys, rfl, S1, e1, hL1, pm⟩
      have lt : i < xs.length := (List.getElem?_eq_some_iff.mp hx).1
      have ly : ys.length = i := by
        rw [pm.length_eq, List.length_take]
        omega
      have et : xs.take (i + 1) = xs.take i ++ [x] := by
        rw [List.take_add_one, hx]
        rfl
      refine ⟨_, rfl, .inl ⟨rfl, _, SqL.of hL1⟩, ?_⟩
      refine ⟨_, rfl, _, rfl, L, ys, rfl, .inl (SqL.of hL1), _, _, rfl, rfl, p, q, cells, _, rfl, S1, by omega, ?_, fun r G2 r0 r1 S2 B2 => ?_⟩
      · exact Int.lt_of_lt_of_le (show (ys.length : Int) + 1 < 200 by omega) (by decide)
      · have hL2 : G2 L = some (.lst ys) := (B2 L n1).trans hL1
        refine ⟨_, rfl, L, ys, r, x, rfl, rfl, hL2, ?_, r0, ?_, _, _, rfl, S2.over n1 n2, stp e1 fun b h1 h2 => ?_, upd_same, ?_⟩
        · exact Nat.lt_of_lt_of_le (show ys.length < 101 by omega) (by decide)
        · exact Int.lt_of_lt_of_le (show r < 200 by omega) (by decide)
        · rw [upd_ne h1]
          exact B2 b h2
        · rw [et]
          exact perm_ins pm
    · rintro σ G ⟨o3, ys, rfl, S1, e1, hL1, pm⟩
      rw [List.take_length] at pm
      exact ⟨_, rfl, k L ys G pm hL hL1 S1 e1⟩
end
end Lw

set_option maxRecDepth 100000
/-! in, not in by an own __contains__; dict comprehensions over lists. -/
namespace VG
open PySem PySem.Spec PyProof.Rows L2
section
variable {X : Cx} {CX : CXT} {C g : Addr} {n : Nat} {sp : Sp} {E : XK}
/-- y in x, x an instance of C, whose __contains__ stands at g -/
def rInO (C : Addr) (neg : Bool) (sp : Sp) (E : XK) : R2 := fun y x H Q => ∃ a dx fs, x = .ref a ∧ H a = some (.ins C dx fs) ∧ sp [x, y] H (fun v H' => ∃ c, v = .bl c ∧ Q (.bl (if neg then !c else c)) H') E
theorem op_inO (hs : PySem.W.findIn X.K (.ref C) "__contains__" = some (some (.ref g))) (hf : PySem.W.isFn X.K (.ref g) = true) (F : FnR X.prog X.w X.K X.mg X.base CX n g sp) (hr : Room n X.A) (hx : Passes CX X E) : OpR X (compareOp .In) (rInO C false sp E) := by
  intro pins s σ H y x u v Q I ry rx h
  obtain ⟨a, dx, fs, rfl, ha, q⟩ := h
  cases (show v = Value.ref a from rx)
  obtain ⟨od, J⟩ := ins_inst I ha
  obtain ⟨m, hF⟩ := I.fr
  refine PySem.W.in_K hF I.ok.mod.kin J hs hf ?_
  refine wpAny_mono (wpAny_call (run_fnR (us := [.ref a, u]) (vs := [.ref a, y]) F hr hx I (.cons rfl (.cons ry .nil)) q)) (fun w s' z => ?_) fun _ _ x => x
  obtain ⟨z', H', I', rz, c, rfl, qz⟩ := z
  cases (show w = Value.bool c from rz)
  exact wpAny_pure ⟨.bl c, H', I', rfl, qz⟩
theorem op_notInO (hs : PySem.W.findIn X.K (.ref C) "__contains__" = some (some (.ref g))) (hf : PySem.W.isFn X.K (.ref g) = true) (F : FnR X.prog X.w X.K X.mg X.base CX n g sp) (hr : Room n X.A) (hx : Passes CX X E) : OpR X (compareOp .NotIn) (rInO C true sp E) := by
  intro pins s σ H y x u v Q I ry rx h
  obtain ⟨a, dx, fs, rfl, ha, q⟩ := h
  cases (show v = Value.ref a from rx)
  obtain ⟨od, J⟩ := ins_inst I ha
  obtain ⟨m, hF⟩ := I.fr
  refine PySem.W.notIn_K hF I.ok.mod.kin J hs hf ?_
  refine wpAny_mono (wpAny_call (run_fnR (us := [.ref a, u]) (vs := [.ref a, y]) F hr hx I (.cons rfl (.cons ry .nil)) q)) (fun w s' z => ?_) fun _ _ x => x
  obtain ⟨z', H', I', rz, c, rfl, qz⟩ := z
  cases (show w = Value.bool c from rz)
  exact wpAny_pure ⟨.bl (!c), H', I', rfl, qz⟩
end
/-- a dict comprehension over a list that stays -/
theorem dc_list {K : PySem.W.Frag} {a : Addr} {xs : List V} {g : TG} {tt : TT} {tk tv : TE} {vs : List Nat} {σ : L2.St} {H1 : Hp} {D : Addr} {Qd : Hp → Prop} (Pv : Nat → Hp → Prop) (h0 : Pv 0 (upd H1 D (.dK []))) (hl : ∀ i H, i ≤ xs.length → Pv i H → SqL K H a xs)
    (hs : ∀ i x H, xs[i]? = some x → Pv i H → g x (wipe σ vs) H fun σ2 H2 => wipe σ2 vs = wipe σ vs ∧ tt σ2 H2 fun b H3 =>
      if b = true then tk σ2 H3 fun y H4 => tv σ2 H4 fun z H5 => ∃ kvs k, y = kV k ∧ H5 D = some (.dK kvs) ∧ kvs.length < sizeLine ∧ Pv (i + 1) (upd H5 D (.dK (putK kvs k z))) else Pv (i + 1) H3) (hd : ∀ H, Pv xs.length H → Qd H) :
    ∃ W : Nat → Nat → Hp → Prop, (∃ m, W 0 m (upd H1 D (.dK []))) ∧ ∀ i m H, W i m H →
      ((Itl K a).stop i H ∧ Qd H) ∨ ((Itl K a).go i H ∧ ∃ Nx : Hp → Prop, (∀ H', Nx H' → ∃ m', m' < m ∧ W (i + 1) m' H') ∧ ∀ x H', (Itl K a).yld i H x H' → g x (wipe σ vs) H' fun σ2 H2 => wipe σ2 vs = wipe σ vs ∧ tt σ2 H2 fun b H3 =>
        if b = true then tk σ2 H3 fun y H4 => tv σ2 H4 fun z H5 => ∃ kvs k, y = kV k ∧ H5 D = some (.dK kvs) ∧ kvs.length < sizeLine ∧ Nx (upd H5 D (.dK (putK kvs k z))) else Nx H3) := by
  refine ⟨fun i m H => m = xs.length - i ∧ i ≤ xs.length ∧ Pv i H, ⟨xs.length, by simp, Nat.zero_le _, h0⟩, ?_⟩
  rintro i m H ⟨rfl, hi, p⟩
  have q := hl i H hi p
  by_cases hlt : i < xs.length
  · refine .inr ⟨⟨xs, xs[i], q, by simp [hlt]⟩, Pv (i + 1), fun H' p' => ⟨xs.length - (i + 1), by omega, rfl, hlt, p'⟩, fun x H' y => ?_⟩
    obtain ⟨e, y⟩ := y
    subst e
    exact hs i x _ (y xs q) p
  · have e : i = xs.length := by omega
    subst e
    exact .inl ⟨⟨xs, q, Nat.le_refl _⟩, hd H p⟩
/-- list(z), z a text: its signs -/
theorem call_listTxt {X : Cx} (hc : X.calm = true) : CallR X (.type "list") (fun xs H Q => ∃ z : Str, xs = [.str z] ∧ z.cps.size ≤ sizeLine ∧ ∀ q, H q = none → Q (.ref q) (upd H q (.lst (z.cps.toList.map fun c => V.str ⟨#[c]⟩)))) := by
  intro pins s σ H xs us Q I r h
  obtain ⟨z, rfl, hz, q⟩ := h
  obtain ⟨u, rfl, rx⟩ := vals1 r
  obtain ⟨t, rfl⟩ := (show ∃ t, u = Value.str z t from rx)
  refine PySem.call_list_str (hn := hz) (I.ok.hd hc) z t fun h' tk acc c' hk e' hi => ?_
  have hl : (z.cps.toList.map fun c => V.str ⟨#[c]⟩).length = acc.toList.length := by rw [List.length_map, Array.length_toList, Array.length_toList, hi.1]
  refine ⟨.ref s.heap.objs.size, upd H s.heap.objs.size (.lst (z.cps.toList.map fun c => V.str ⟨#[c]⟩)), I.laid (t' := tk) hk (Nat.le_refl _)
    (show ObjOk X.prog X.w _ _ _ (.lst _) from ⟨by rw [List.length_map, Array.length_toList]; exact hz, acc.toList, c', vals_of_at hl fun j x u h1 h2 => ?_, by rw [Array.toArray_toList]; exact e'⟩), rfl, q _ (I.hok.fresh (Nat.le_refl _))⟩
  obtain ⟨c, v, e1, e2⟩ := hi.2 j u (by rw [← Array.getElem?_toList]; exact h2)
  rw [List.getElem?_map, Array.getElem?_toList, e1] at h1
  cases h1
  exact ⟨v, e2⟩
end VG

set_option maxRecDepth 100000
set_option linter.unusedVariables false
namespace Lw
open PySem PySem.Spec PyProof.Rows L2 VG
def nameB (z : Str) : Bool := decide ((z.length : Int) ≤ 5) && (Txt.isascii z && (Txt.isalpha z && Txt.islower z))
def word (cs : List Nat) : Str := ⟨cs.toArray⟩
theorem word_list (cs : List Nat) : (word cs).cps.toList = cs := rfl
theorem word_len (cs : List Nat) : (word cs).length = cs.length := by simp [word, Str.length]
theorem app_list (x y : Str) : (x ++ y).cps.toList = x.cps.toList ++ y.cps.toList := Array.toList_append
theorem str_ext {x y : Str} (h : x.cps.toList = y.cps.toList) : x = y := by
  obtain ⟨a⟩ := x
  obtain ⟨b⟩ := y
  exact congrArg Str.mk (Array.toList_inj.mp h)
theorem word_app (a b : List Nat) : word a ++ word b = word (a ++ b) := str_ext (by rw [app_list]; rfl)
theorem word_inj {a b : List Nat} (h : word a = word b) : a = b := by
  have := congrArg (fun z : Str => z.cps.toList) h
  exact this
theorem join_list : ∀ cs : List Nat, (Str.join "" (cs.map fun c => (⟨#[c]⟩ : Str))).cps.toList = cs
  | [] => rfl
  | [_] => rfl
  | c :: d :: r => by
    have ih := join_list (d :: r)
    show ((⟨#[c]⟩ : Str) ++ ("" : Str) ++ Str.join "" ((d :: r).map fun c => (⟨#[c]⟩ : Str))).cps.toList = _
    rw [app_list, app_list, ih]
    rfl
theorem join_signs (cs : List Nat) : Txt.join "" (cs.map fun c => (⟨#[c]⟩ : Str)) = word cs := by
  refine str_ext ?_
  rw [show Txt.join "" (cs.map fun c => (⟨#[c]⟩ : Str)) = Str.join "" (cs.map fun c => (⟨#[c]⟩ : Str)) from StrLaws.glued_eq_join _ _, join_list]
  rfl
theorem all_list (p : Nat → Bool) (cs : List Nat) : (word cs).cps.all p = cs.all p := by simp [word]
theorem any_list (p : Nat → Bool) (cs : List Nat) : (word cs).cps.any p = cs.any p := by simp [word]
def sgn (c : Nat) : V := .str ⟨#[c]⟩
theorem sgns (cs : List Nat) : (cs.map fun c => (⟨#[c]⟩ : Str)).map V.str = cs.map sgn := by rw [List.map_map]; rfl
theorem sgn_lens : ∀ cs : List Nat, ((cs.map fun c => (⟨#[c]⟩ : Str)).map (·.length)).sum = cs.length
  | [] => rfl
  | c :: r => by
    have := sgn_lens r
    rw [List.map_cons, List.map_cons, List.sum_cons, this, List.length_cons]
    show 1 + r.length = r.length + 1
    omega
abbrev abc : Str := "abcdefghijklmnopqrstuvwxyz"
theorem abc_len : abc.cps.toList.length = 26 := by decide +kernel
theorem abc_nd : abc.cps.toList.Nodup := by decide +kernel
theorem abc_ok : ∀ c ∈ abc.cps.toList, c < 128 ∧ PySem.Unicode.isAlpha c = true ∧ PySem.Unicode.isLower c = true ∧ (PySem.Unicode.isUpper c || PySem.Unicode.isTitle c) = false := by decide +kernel
theorem name_abc {cs : List Nat} (h0 : cs ≠ []) (h5 : cs.length ≤ 5) (h : ∀ c ∈ cs, c ∈ abc.cps.toList) : nameB (word cs) = true := by
  have f := fun c hc => abc_ok c (h c hc)
  unfold nameB Txt.isascii Txt.isalpha Txt.islower
  rw [word_len, all_list, all_list, any_list, any_list]
  simp only [Bool.and_eq_true, decide_eq_true_eq, List.all_eq_true, List.any_eq_true, Bool.not_eq_true', List.any_eq_false, Bool.not_eq_true]
  obtain ⟨c, hc⟩ := List.exists_mem_of_ne_nil cs h0
  have : 0 < cs.length := List.length_pos_iff.mpr h0
  exact ⟨by omega, fun c hc => (f c hc).1, ⟨this, fun c hc => (f c hc).2.1⟩, ⟨c, hc, (f c hc).2.2.1⟩, fun c hc => (f c hc).2.2.2⟩
theorem cut_to {a : List Nat} {n : Nat} (h : n ≤ a.length) : cutS (word a) none (some (n : Int)) = word (a.take n) := by
  unfold cutS
  rw [HT.sIx_nat, HT.sIx_none, word_len, Nat.min_eq_left h, word_list, List.drop_zero, Nat.sub_zero]
  rfl
theorem cut_from {a : List Nat} {n : Nat} (h : n ≤ a.length) : cutS (word a) (some (n : Int)) none = word (a.drop n) := by
  unfold cutS
  rw [HT.sIx_nat, HT.sIx_none, word_len, Nat.min_eq_left h, word_list]
  congr 1
  congr 1
  exact List.take_of_length_le (by rw [List.length_drop]; omega)
/-- what a permutation of signs is -/
def unS : V → Nat
  | .str z => z.cps.toList.headD 0
  | _ => 0
theorem perm_signs {ys : List V} {l : List Nat} (h : ys.Perm (l.map sgn)) : ∃ cs : List Nat, cs.Perm l ∧ ys = cs.map sgn := by
  refine ⟨ys.map unS, ?_, ?_⟩
  · have := h.map unS
    rw [List.map_map] at this
    have e : l.map (unS ∘ sgn) = l := by
      induction l with
      | nil => rfl
      | cons c r ih => exact List.map_id'' (fun x => rfl) _
    rw [e] at this
    exact this
  · have all : ∀ y ∈ ys, ∃ c, y = sgn c := fun y hy => by
      obtain ⟨c, _, e⟩ := List.mem_map.mp (h.mem_iff.mp hy)
      exact ⟨c, e.symm⟩
    clear h
    induction ys with
    | nil => rfl
    | cons y ys ih =>
      obtain ⟨c, rfl⟩ := all y List.mem_cons_self
      rw [List.map_cons, List.map_cons, ← ih fun y hy => all y (List.mem_cons_of_mem _ hy)]
      rfl
theorem cutV_to {xs : List V} {n : Nat} (h : n ≤ xs.length) : cutV xs none (some (n : Int)) = xs.take n := by
  unfold cutV
  rw [HT.sIx_nat, HT.sIx_none, Nat.min_eq_left h, List.drop_zero, Nat.sub_zero]
/-- the names about a stem -/
def nameW (st : List Nat) (n : Nat) (c : Nat) : Str := word (st.take n ++ [c] ++ st.drop n)
theorem nameW_ok {st : List Nat} {n c : Nat} (h : st.length ≤ 4) (hs : ∀ c ∈ st, c ∈ abc.cps.toList) (hc : c ∈ abc.cps.toList) : nameB (nameW st n c) = true ∧ (nameW st n c).length ≤ 5 := by
  have l : (st.take n ++ [c] ++ st.drop n).length ≤ 5 := by
    rw [List.length_append, List.length_append, List.length_take, List.length_drop, List.length_singleton]
    omega
  refine ⟨name_abc (by simp) l fun d hd => ?_, by unfold nameW; rw [word_len]; exact l⟩
  rcases List.mem_append.mp hd with hd | hd
  · rcases List.mem_append.mp hd with hd | hd
    · exact hs d (List.mem_of_mem_take hd)
    · rw [List.mem_singleton.mp hd]
      exact hc
  · exact hs d (List.mem_of_mem_drop hd)
theorem nameW_inj {st : List Nat} {n c d : Nat} (h : nameW st n c = nameW st n d) : c = d := by
  have e := word_inj h
  rw [List.append_assoc, List.append_assoc] at e
  have e := List.append_cancel_left e
  exact (List.cons.inj e).1
section
variable {P : Program} {w : World} {K : PySem.W.Frag} {mg : Str → Option Value} {base : Heap}
def spLNames (K : PySem.W.Frag) : Sp := fun vs H Q _ => ∃ (p q : Addr) (cells : List Int), vs = [.ref p, .int 6] ∧ Src H p q cells ∧
  ∀ (L : Addr) (zs : List Str) (H' : Hp), zs.length = 6 → zs.Nodup → (∀ z ∈ zs, nameB z = true ∧ z.length ≤ 5) → H L = none → H' L = some (.lst (zs.map V.str)) → Src H' p q cells → Exs [p] H H' → Q (.ref L) H'
abbrev NN : List Str := ["_law_src", "_law_many", "_law_letters", "_law_stem", "_law_k", "_law_at", "_law_letter"]
theorem scLNames : FnScope NN ["_law_src", "_law_many"] (defScope s__law_names) := ⟨rfl, rfl, rfl, by decide +kernel, rfl, by decide +kernel, by decide +kernel⟩
theorem ok_lnames {f fD fO fM : Addr} {fd fdD fdO fdM : FuncData} (F : Fun K "_law_names" "_law_names" s__law_names f fd) (T : Nm mg) (rng : mg "range" = none) (GD : FnOk P w K mg base CX0 1 fD fdD ["_law_src", "_law_many"] spDraw) (mD : mg "_law_draw" = some (.ref fD)) (kD : PySem.W.keepIn K (.ref fD) = true) (bD : Binds K fdD ["_law_src", "_law_many"] [])
    (GO : FnOk P w K mg base CX0 2 fO fdO ["_law_src", "_law_some"] (spOf K)) (mO : mg "_law_of" = some (.ref fO)) (kO : PySem.W.keepIn K (.ref fO) = true) (bO : Binds K fdO ["_law_src", "_law_some"] [])
    (GM : FnOk P w K mg base CX0 2 fM fdM ["_law_src", "_law_things"] (spMixed K)) (mM : mg "_law_mixed" = some (.ref fM)) (kM : PySem.W.keepIn K (.ref fM) = true) (bM : Binds K fdM ["_law_src", "_law_things"] []) :
    FnOk P w K mg base CX0 3 f fd ["_law_src", "_law_many"] (spLNames K) := by
  refine F.ok scLNames (fun vs H Q E h => ?_) (fun cdv A outer s H vs Q E hr h => ?_)
  · obtain ⟨p, q, cells, rfl, _⟩ := h
    rfl
  · obtain ⟨p, q, cells, rfl, hS, k⟩ := h
    have nd := scLNames.nd
    have hr1 : Room 1 _ := hr.mono (by decide)
    refine ⟨_, pss_cons (ps_set (i := 2) nd rfl (Or.inl rfl) (pe_call GM hr (by rfl) mM kM bM .nil pass0 (pa_cons (pv 0) (pa_cons (pe_callTy (call_listTxt rfl) (by rfl) T.list (by decide +kernel) (pa_cons pe_str pa_nil)) pa_nil))))
      (C8.pss_cut (ps_set (i := 3) nd rfl (Or.inr rfl) (pe_join pe_str (pe_lc (own := [("_law_k", 4)]) (g := gName 4) (tt := tYes) rfl nd (pi_range1 (by rfl) rng (pa_cons (pe_call GD hr1 (by rfl) mD kD bD .nil pass0 (pa_cons (pv 0) (pa_cons pe_int pa_nil))) pa_nil))
            (blkOk_by (own := [("_law_k", 4)]) (N := NN) (sc := defScope s__law_names) (by decide +kernel)) (fun _ _ _ _ _ => pg_name (i := 4) nd rfl (Or.inl rfl)) (fun _ _ _ _ _ => pts_nil)
            (fun _ _ _ _ _ => pe_call GO hr (by rfl) mO kO bO .nil pass0 (pa_cons (pv 0) (pa_cons pe_str pa_nil))))))
      (pss_cons (ps_set (i := 5) nd rfl (Or.inr rfl) (pe_call GD hr1 (by rfl) mD kD bD .nil pass0 (pa_cons (pv 0) (pa_cons (pe_op op_add (pe_callB call_len (by rfl) T.len PySem.boot_len (pa_cons (pv 3) pa_nil)) pe_int) pa_nil))))
      (pss_one (ps_ret (pe_lc (own := [("_law_letter", 6)]) (g := gName 6) (tt := tYes) rfl nd (pi_list (pe_slice sl_list (pv 2) po_none (po_some (pv 1)))) (blkOk_by (own := [("_law_letter", 6)]) (N := NN) (sc := defScope s__law_names) (by decide +kernel)) (fun _ _ _ _ _ => pg_name (i := 6) nd rfl (Or.inl rfl)) (fun _ _ _ _ _ => pts_nil)
            (fun _ _ _ _ _ => pe_op op_add_str (pe_op op_add_str (pe_slice sl_str (pv 3) po_none (po_some (pv 5))) (pv 6)) (pe_slice sl_str (pv 3) (po_some (pv 5)) po_none))))))), ?_⟩
    refine ⟨_, rfl, abc, rfl, by decide +kernel, fun T0 hT0 => ?_⟩
    have n1 := hS.ne1 hT0
    have n2 := hS.ne2 hT0
    have mT := same_upd (o := .lst (abc.cps.toList.map fun c => V.str ⟨#[c]⟩)) hT0
    refine ⟨p, q, T0, cells, abc.cps.toList.map sgn, rfl, hS.over n1 n2, SqL.of (by rw [wos_out (fun y => n1 (List.mem_singleton.mp y)), upd_same]; rfl), by rw [List.length_map, abc_len]; decide, fun L ys H1 pm hL hL1 S1 e1 => ?_⟩
    obtain ⟨cs, pc, rfl⟩ := perm_signs pm
    have hLH : H L = none := by
      cases z : H L with
      | none => rfl
      | some o =>
        rw [mT _ _ z] at hL
        cases hL
    have nL := hS.ne1 hLH
    have nLq := hS.ne2 hLH
    have lcs : cs.length = 26 := by rw [pc.length_eq, abc_len]
    have e1 : Exs [p] H H1 := (Exs.of mT).trans e1
    have stp : ∀ {G G' : Hp}, Exs [p] H G → (∀ b, b ≠ p → H b ≠ none → G' b = G b) → Exs [p] H G' := fun {G G'} e h b o z => by
      by_cases y : b ∈ [p]
      · rw [wos_in y] at z
        cases z
      · have nb : b ≠ p := fun t => y (List.mem_singleton.mpr t)
        have := e b o z
        rw [wos_out y] at this z ⊢
        rw [h b nb (by rw [z]; exact fun t => by cases t)]
        exact this
    refine ⟨fun σ G => ∃ (st : List Nat) (o4 : Option V), σ = [some (.ref p), some (.int 6), some (.ref L), some (.str (word st)), o4, none, none] ∧ st.length ≤ 4 ∧ (∀ c ∈ st, c ∈ abc.cps.toList) ∧ Src G p q cells ∧ Exs [p] H G ∧ G L = some (.lst (cs.map sgn)), ?_, ?_⟩
    · refine ⟨⟨_, rfl⟩, _, rfl, p, q, cells, 5, rfl, S1, by decide, by decide, fun r H3 r0 r1 S3 B3 => ⟨r, rfl, by omega, by omega, fun D hD => ?_⟩⟩
      have m1 := S3.ne1 hD
      have m2 := S3.ne2 hD
      have e3 : Exs [p] H H3 := e1.trans (S1.exs B3)
      have hDH : H D = none := by
        cases z : H D with
        | none => rfl
        | some o =>
          rw [e3.on (fun y => m1 (List.mem_singleton.mp y)) z] at hD
          cases hD
      have hL3 : H3 L = some (.lst (cs.map sgn)) := (B3 L nL).trans hL1
      have nDL : L ≠ D := fun z => by rw [← z, hL3] at hD; cases hD
      refine lc_range (lo := 0) (n := r.toNat) (fun i G => ∃ (st : List Nat), G D = some (.lst (st.map sgn)) ∧ st.length = i ∧ (∀ c ∈ st, c ∈ abc.cps.toList) ∧ Src G p q cells ∧ Exs [p] H G ∧ G L = some (.lst (cs.map sgn)))
        ⟨[], upd_same, rfl, by simp, S3.over m1 m2, stp e3 fun b h1 h2 => upd_ne (fun z => h2 (by rw [z]; exact hDH)), by rw [upd_ne nDL]; exact hL3⟩ ?_ ?_
      · rintro i H4 hi ⟨st, hD4, hl, hc, S4, e4, hL4⟩
        refine ⟨rfl, ?_⟩
        refine ⟨_, rfl, p, q, cells, _, rfl, S4, .inr ⟨abc, rfl, by decide +kernel, by decide +kernel, fun c H5 hc5 S5 B5 => ?_⟩⟩
        refine ⟨st.map sgn, (B5 D m1).trans hD4, by rw [List.length_map]; exact Nat.lt_of_lt_of_le (show st.length < 8 by omega) (by decide), st ++ [c], by rw [upd_same, List.map_append]; rfl, by rw [List.length_append, hl]; rfl, ?_, S5.over m1 m2, stp (e4.trans (S4.exs B5)) fun b h1 h2 => upd_ne (fun z => h2 (by rw [z]; exact hDH)), by rw [upd_ne nDL]; exact (B5 L nL).trans hL4⟩
        intro d hd
        rcases List.mem_append.mp hd with z | z
        · exact hc d z
        · rw [List.mem_singleton.mp z]
          exact hc5
      · rintro H4 ⟨st, hD4, hl, hc, S4, e4, hL4⟩
        refine ⟨_, D, st.map fun c => (⟨#[c]⟩ : Str), rfl, rfl, .inl (by rw [sgns]; exact SqL.of hD4), ?_, ?_⟩
        · rw [sgn_lens, List.length_map]
          show st.length + st.length * 0 ≤ 16777216
          omega
        · rw [join_signs]
          exact ⟨st, _, rfl, by omega, hc, S4, e4, hL4⟩
    · rintro σ G ⟨st, o4, rfl, hl, hc, S4, e4, hL4⟩
      refine ⟨_, rfl, _, rfl, _, (word st).length, rfl, ⟨by rw [word_len]; exact Nat.le_trans hl (by decide), rfl⟩, _, _, rfl, rfl, p, q, cells, _, rfl, S4, by omega, ?_, fun n G2 n0 n1' S5 B5 => ?_⟩
      · rw [word_len]
        exact Int.lt_of_lt_of_le (show (st.length : Int) + 1 < 10 by omega) (by decide)
      · obtain ⟨n, rfl⟩ := Int.eq_ofNat_of_zero_le n0
        rw [word_len] at n1'
        have hn : n ≤ st.length := by omega
        have hL5 := (B5 L nL).trans hL4
        have e5 := e4.trans (S4.exs B5)
        refine ⟨_, rfl, _, rfl, _, rfl, L, cs.map sgn, rfl, SqL.of hL5, fun U hU => ?_⟩
        rw [show cutV (cs.map sgn) none (some (6 : Int)) = (cs.take 6).map sgn by rw [show (6 : Int) = ((6 : Nat) : Int) from rfl, cutV_to (by rw [List.length_map, lcs]; decide), List.map_take]]
        have u1 := S5.ne1 hU
        have u2 := S5.ne2 hU
        have mU := same_upd (o := .lst ((cs.take 6).map sgn)) hU
        refine ⟨U, rfl, ⟨_, SqL.of upd_same⟩, fun D hD => ?_⟩
        have S6 : Src (upd G2 U (.lst ((cs.take 6).map sgn))) p q cells := S5.over u1 u2
        have d1 := S6.ne1 hD
        have d2 := S6.ne2 hD
        have e6 : Exs [p] H (upd G2 U (.lst ((cs.take 6).map sgn))) := e5.trans (Exs.of mU)
        have hDH : H D = none := by
          cases z : H D with
          | none => rfl
          | some o =>
            rw [e6.on (fun y => d1 (List.mem_singleton.mp y)) z] at hD
            cases hD
        have nUD : U ≠ D := fun z => by rw [← z, upd_same] at hD; cases hD
        refine lc_list (K := K) (a := U) (xs := (cs.take 6).map sgn) (fun i G3 => Src G3 p q cells ∧ Exs [p] H G3 ∧ G3 U = some (.lst ((cs.take 6).map sgn)) ∧ G3 D = some (.lst (((cs.take 6).take i).map fun c => V.str (nameW st n c)))) ⟨S6.over d1 d2, e6.trans (Exs.of (same_upd hD)), by rw [upd_ne nUD]; exact upd_same, upd_same⟩ (fun i G3 _ c => SqL.of c.2.2.1) (fun i v G3 hv c => ?_) (fun G3 c => ?_)
        · obtain ⟨S7, e7, hU7, hD7⟩ := c
          rw [List.getElem?_map] at hv
          obtain ⟨x, hx, rfl⟩ := Option.map_eq_some_iff.mp hv
          have et : (cs.take 6).take (i + 1) = (cs.take 6).take i ++ [x] := by
            rw [List.take_add_one, hx]
            rfl
          have lt : i < (cs.take 6).length := (List.getElem?_eq_some_iff.mp hx).1
          rw [List.length_take] at lt
          refine ⟨rfl, _, rfl, _, rfl, _, rfl, word st, rfl, by rw [word_len]; exact Nat.le_trans hl (by decide), ?_⟩
          rw [cut_to hn]
          refine ⟨_, rfl, _, _, rfl, rfl, ?_, ?_⟩
          · rw [word_len, List.length_take]
            exact Nat.le_trans (show min n st.length + 1 ≤ 10 by omega) (by decide)
          refine ⟨_, rfl, _, rfl, _, rfl, word st, rfl, by rw [word_len]; exact Nat.le_trans hl (by decide), ?_⟩
          rw [cut_from hn]
          have ew : word (st.take n) ++ (⟨#[x]⟩ : Str) = word (st.take n ++ [x]) := word_app _ [x]
          rw [ew]
          refine ⟨_, _, rfl, rfl, ?_, ?_⟩
          · rw [word_len, word_len, List.length_append, List.length_take, List.length_drop, List.length_singleton]
            exact Nat.le_trans (show min n st.length + 1 + (st.length - n) ≤ 10 by omega) (by decide)
          rw [word_app]
          refine ⟨_, hD7, ?_, S7.over d1 d2, stp e7 fun b h1 h2 => upd_ne (fun z => h2 (by rw [z]; exact hDH)), by rw [upd_ne nUD]; exact hU7, ?_⟩
          · rw [List.length_map, List.length_take]
            exact Nat.lt_of_le_of_lt (Nat.min_le_left _ _) (Nat.lt_of_lt_of_le (show i < 10 by omega) (by decide))
          · rw [upd_same, et, List.map_append]
            rfl
        · obtain ⟨S7, e7, hU7, hD7⟩ := c
          rw [List.length_map, List.take_length] at hD7
          have hmem : ∀ c ∈ cs.take 6, c ∈ abc.cps.toList := fun c h => pc.mem_iff.mp (List.mem_of_mem_take h)
          refine k D ((cs.take 6).map (nameW st n)) G3 ?_ ?_ (fun z hz => ?_) hDH ?_ S7 e7
          · rw [List.length_map, List.length_take, lcs]
            rfl
          · refine List.pairwise_map.mpr (((pc.symm.nodup abc_nd).sublist (List.take_sublist 6 cs)).imp fun h e => h (nameW_inj e))
          · obtain ⟨c, hc2, rfl⟩ := List.mem_map.mp hz
            exact nameW_ok hl hc (hmem c hc2)
          · rw [List.map_map]
            exact hD7
end
end Lw

/-! Shortest ways: ratios as pairs, and the closing of a table of lengths. -/
namespace VG
/-- the value of a pair (top, bottom) -/
def ratV (s : Int × Int) : Rat := (s.1 : Rat) / (s.2 : Rat)
theorem cast_pos {b : Int} (h : 0 < b) : (0 : Rat) < (b : Rat) := by exact_mod_cast h
theorem ratV_eq {t b u v : Int} (hb : 0 < b) (hv : 0 < v) (h : t * v = u * b) : ratV (t, b) = ratV (u, v) := by
  have h1 := cast_pos hb
  have h2 := cast_pos hv
  have h3 : (t : Rat) * v = u * b := by exact_mod_cast h
  show (t : Rat) / b = u / v
  grind
theorem ratV_add {s t : Int × Int} (hs : 0 < s.2) (ht : 0 < t.2) : ratV (s.1 * t.2 + t.1 * s.2, s.2 * t.2) = ratV s + ratV t := by
  have h1 := cast_pos hs
  have h2 := cast_pos ht
  show (((s.1 * t.2 + t.1 * s.2 : Int)) : Rat) / ((s.2 * t.2 : Int) : Rat) = s.1 / s.2 + t.1 / t.2
  rw [Rat.intCast_add, Rat.intCast_mul, Rat.intCast_mul, Rat.intCast_mul]
  grind
theorem ratV_lt {s t : Int × Int} (hs : 0 < s.2) (ht : 0 < t.2) : ratV s < ratV t ↔ s.1 * t.2 < t.1 * s.2 := by
  have h1 := cast_pos hs
  have h2 := cast_pos ht
  show (s.1 : Rat) / s.2 < t.1 / t.2 ↔ _
  have e1 : (s.1 : Rat) / s.2 < t.1 / t.2 ↔ (s.1 : Rat) * t.2 < t.1 * s.2 := by
    rw [Rat.div_lt_iff h1, show (t.1 : Rat) / t.2 * s.2 = (t.1 * s.2) / t.2 by grind, Rat.lt_div_iff h2]
  rw [e1]
  exact_mod_cast Iff.rfl
/-! ### the closing of a table of lengths -/
def minR (a b : Rat) : Rat := if b < a then b else a
theorem minR_le {a b : Rat} : minR a b ≤ a ∧ minR a b ≤ b := by unfold minR; grind
theorem minR_or {a b : Rat} : minR a b = a ∨ minR a b = b := by unfold minR; grind
def cloR (f : Nat → Nat → Rat) : Nat → Nat → Nat → Rat
  | 0 => f
  | m + 1 => fun i j => minR (cloR f m i j) (cloR f m i m + cloR f m m j)
/-- what a table of lengths is: none below zero, zero from a place to itself -/
structure LenR (n : Nat) (f : Nat → Nat → Rat) : Prop where
  nn : ∀ i j, i < n → j < n → 0 ≤ f i j
  zz : ∀ i, i < n → f i i = 0
theorem clo_len {n : Nat} {f : Nat → Nat → Rat} (h : LenR n f) : ∀ m, m ≤ n → LenR n (cloR f m)
  | 0, _ => h
  | m + 1, hm => by
    have ih := clo_len h m (by omega)
    refine ⟨fun i j hi hj => ?_, fun i hi => ?_⟩
    · have a := ih.nn i j hi hj
      have b := ih.nn i m hi (by omega)
      have c := ih.nn m j (by omega) hj
      show 0 ≤ minR _ _
      unfold minR
      grind
    · have a := ih.zz i hi
      have b := ih.nn i m hi (by omega)
      have c := ih.nn m i (by omega) hi
      show minR _ _ = 0
      unfold minR
      grind
theorem clo_tri {n : Nat} {f : Nat → Nat → Rat} (h : LenR n f) : ∀ m, m ≤ n → ∀ i j k, i < n → j < n → k < m → cloR f m i j ≤ cloR f m i k + cloR f m k j
  | 0, _, _, _, _, _, _, hk => absurd hk (by omega)
  | m + 1, hm, i, j, k, hi, hj, hk => by
    have L := clo_len h m (by omega)
    have ih := clo_tri h m (by omega)
    have hm' : m < n := by omega
    have hkn : k < n := by omega
    have zm := L.zz m hm'
    have n1 := L.nn i m hi hm'
    have n2 := L.nn m j hm' hj
    show minR (cloR f m i j) (cloR f m i m + cloR f m m j) ≤ minR (cloR f m i k) (cloR f m i m + cloR f m m k) + minR (cloR f m k j) (cloR f m k m + cloR f m m j)
    by_cases e : k = m
    · subst e
      unfold minR
      grind
    · have hk' : k < m := by omega
      have t1 := ih i j k hi hj hk'
      have t2 := ih m j k hm' hj hk'
      have t3 := ih i m k hi hm' hk'
      have n3 := L.nn m k hm' hkn
      have n4 := L.nn k m hkn hm'
      unfold minR
      grind
/-- no way by a third place is shorter -/
theorem clo_ways {n : Nat} {f : Nat → Nat → Rat} (h : LenR n f) {i j k : Nat} (hi : i < n) (hj : j < n) (hk : k < n) : cloR f n i j ≤ cloR f n i k + cloR f n k j := clo_tri h n (Nat.le_refl n) i j k hi hj hk
/-- the closing makes no length greater -/
theorem clo_le (f : Nat → Nat → Rat) : ∀ m i j, cloR f m i j ≤ f i j
  | 0, _, _ => Rat.le_refl
  | m + 1, i, j => by
    have ih := clo_le f m i j
    show minR _ _ ≤ _
    unfold minR
    grind
end VG

set_option maxRecDepth 100000
/-! A star in targets: (a, *b) = .., (*a, b, c) = .. of a list or a tuple; either of two readings. -/
namespace VG
open PySem PySem.Spec PyProof.Rows L2 PySem.Calls
section
variable {prog : Program} {w : World} {A : Around} {E : Value → Shared → Prop} {s : Shared}
open PySem.W in
theorem unp_starL {l : Addr} {items : Array Value} {n i : Nat} {Q : List Value → Shared → Prop} (hl : s.heap.IsList l items) (hh : A.handled = none) (hi : i < n) (hn : n ≤ items.size + 1) (hz : items.size ≤ sizeLine)
    (h : ∀ (h' : Heap) (tk : Nat), (∀ b o, s.heap.get? b = some o → h'.get? b = some o) → Q (items.toList.take i ++ [.ref h'.objs.size] ++ (items.toList.drop i).drop (items.size + 1 - n)) { s with heap := h'.push { cls := .type "list", data := .seq ((items.toList.drop i).take (items.size + 1 - n)).toArray }, toks := tk }) : wpAny (model prog w) A (unpackItems (.ref l) n (some i)) Q E s := by
  have hlt : l ≠ s.heap.objs.size := by obtain ⟨o, ho, _⟩ := hl; exact Nat.ne_of_lt (Heap.lt_size ho)
  unfold unpackItems
  refine wpAny_bind ?_
  unfold notIterableAtAll
  refine wpAny_bind (wpAny_specialOf hl.typeIs slot_list_iter.lookup ?_)
  refine wpAny_pure ?_
  simp only [Bool.false_eq_true, if_false]
  refine wpAny_bind (wpAny_holding (wpAny_pyIter_list hl ?_))
  refine wpAny_bind (wpAny_holding (kun_draw hlt i 0 _ _ ⟨_, Heap.get?_push_size _ rfl, rfl, rfl⟩ (hl.push _) (by omega) fun h₁ hit₁ hs₁ => ?_))
  have hl₁ : h₁.IsList l items := (hl.push _).extBut hs₁.extBut hlt
  rw [Nat.zero_add] at hit₁
  have hit₁' := hit₁
  obtain ⟨oi, hoi, _⟩ := hit₁'
  have hl₁' := hl₁
  obtain ⟨ol, hol, _⟩ := hl₁'
  rw [List.drop_zero]
  have hfl : (items.toList.take i).length = i := by rw [List.length_take, Array.length_toList]; omega
  rw [if_neg (show ¬ ((items.toList.take i).length < i) by rw [hfl]; omega)]
  refine wpAny_bind (wpAny_holding (kun_collect (s := { s with heap := h₁ }) (T := "list_iterator") (.inr (.inr (.inl rfl))) (Walks.list (A := A.in1) hh s.heap.objs.size l hlt items) (fun j u st => st.1.typeIs) (k := i) (by omega) ⟨hit₁, hl₁⟩ (Heap.lt_size hoi) (Heap.lt_size hol) (fun h₂ tk hk => ?_) hz))
  have hrl : (items.toList.drop i).length = items.size - i := by rw [List.length_drop, Array.length_toList]
  have hmid : (items.toList.drop i).length - (n - 1 - i) = items.size + 1 - n := by rw [hrl]; omega
  show wpAny _ _ (if (items.toList.drop i).length < n - 1 - i then _ else _) _ _ _
  rw [if_neg (by rw [hrl]; omega)]
  show wpAny _ _ (newList ((items.toList.drop i).take ((items.toList.drop i).length - (n - 1 - i))) >>= fun d => pure (items.toList.take i ++ [d] ++ (items.toList.drop i).drop ((items.toList.drop i).length - (n - 1 - i)))) _ _ _
  rw [hmid]
  have he : ∀ b o, s.heap.get? b = some o → h₂.get? b = some o := fun b o e => by
    have nb : b ≠ s.heap.objs.size := Nat.ne_of_lt (Heap.lt_size e)
    exact hk b o nb (hs₁.extBut b o nb (Heap.get?_push_of_some _ e))
  exact wpAny_bind (wpAny_newList (s := { s with heap := h₂, toks := tk }) (wpAny_pure (h h₂ tk he)) (by rw [List.length_take, hrl]; omega))
open PySem.W in
theorem unp_starT {l : Addr} {items : Array Value} {n i : Nat} {Q : List Value → Shared → Prop} (hl : IsTup s.heap l items) (hh : A.handled = none) (hi : i < n) (hn : n ≤ items.size + 1) (hz : items.size ≤ sizeLine)
    (h : ∀ (h' : Heap) (tk : Nat), (∀ b o, s.heap.get? b = some o → h'.get? b = some o) → Q (items.toList.take i ++ [.ref h'.objs.size] ++ (items.toList.drop i).drop (items.size + 1 - n)) { s with heap := h'.push { cls := .type "list", data := .seq ((items.toList.drop i).take (items.size + 1 - n)).toArray }, toks := tk }) : wpAny (model prog w) A (unpackItems (.ref l) n (some i)) Q E s := by
  have hlt : l ≠ s.heap.objs.size := by obtain ⟨o, ho, _⟩ := hl; exact Nat.ne_of_lt (Heap.lt_size ho)
  unfold unpackItems
  refine wpAny_bind ?_
  unfold notIterableAtAll
  refine wpAny_bind (wpAny_specialOf hl.typeIs slot_tuple_iter.lookup ?_)
  refine wpAny_pure ?_
  simp only [Bool.false_eq_true, if_false]
  refine wpAny_bind (wpAny_holding (iter_tuple hl ?_))
  refine wpAny_bind (wpAny_holding (draw_tuple hlt i 0 _ _ ⟨_, Heap.get?_push_size _ rfl, rfl, rfl⟩ (hl.push _) (by omega) fun h₁ hit₁ hs₁ => ?_))
  have hl₁ : IsTup h₁ l items := (hl.push _).extBut hs₁.extBut hlt
  rw [Nat.zero_add] at hit₁
  have hit₁' := hit₁
  obtain ⟨oi, hoi, _⟩ := hit₁'
  have hl₁' := hl₁
  obtain ⟨ol, hol, _⟩ := hl₁'
  rw [List.drop_zero]
  have hfl : (items.toList.take i).length = i := by rw [List.length_take, Array.length_toList]; omega
  rw [if_neg (show ¬ ((items.toList.take i).length < i) by rw [hfl]; omega)]
  refine wpAny_bind (wpAny_holding (kun_collect (s := { s with heap := h₁ }) (T := "tuple_iterator") (.inr (.inr (.inr rfl))) (Walks.tuple (A := A.in1) hh s.heap.objs.size l hlt items) (fun j u st => st.1.typeIs) (k := i) (by omega) ⟨hit₁, hl₁⟩ (Heap.lt_size hoi) (Heap.lt_size hol) (fun h₂ tk hk => ?_) hz))
  have hrl : (items.toList.drop i).length = items.size - i := by rw [List.length_drop, Array.length_toList]
  have hmid : (items.toList.drop i).length - (n - 1 - i) = items.size + 1 - n := by rw [hrl]; omega
  show wpAny _ _ (if (items.toList.drop i).length < n - 1 - i then _ else _) _ _ _
  rw [if_neg (by rw [hrl]; omega)]
  show wpAny _ _ (newList ((items.toList.drop i).take ((items.toList.drop i).length - (n - 1 - i))) >>= fun d => pure (items.toList.take i ++ [d] ++ (items.toList.drop i).drop ((items.toList.drop i).length - (n - 1 - i)))) _ _ _
  rw [hmid]
  have he : ∀ b o, s.heap.get? b = some o → h₂.get? b = some o := fun b o e => by
    have nb : b ≠ s.heap.objs.size := Nat.ne_of_lt (Heap.lt_size e)
    exact hk b o nb (hs₁.extBut b o nb (Heap.get?_push_of_some _ e))
  exact wpAny_bind (wpAny_newList (s := { s with heap := h₂, toks := tk }) (wpAny_pure (h h₂ tk he)) (by rw [List.length_take, hrl]; omega))
end
/-- targets with a star at place i among n -/
def gStar (K : PySem.W.Frag) (n i : Nat) (t : TGs) : TG := fun v σ H Q => ∃ a xs, v = .ref a ∧ (SqT K H a xs ∨ SqL K H a xs) ∧ i < n ∧ n ≤ xs.length + 1 ∧ ∀ D, H D = none → t (xs.take i ++ [.ref D] ++ (xs.drop i).drop (xs.length + 1 - n)) σ (upd H D (.lst ((xs.drop i).take (xs.length + 1 - n)))) Q
section
variable {X : Cx}
theorem pgs_star {e : Expr} {es : List Expr} {t : TG} {u : TGs} {p : Pos} (h1 : PG X e t) (h2 : PGs X es u)
    (hs : (assignEach (.Starred e p :: es) X.env).map (·.2) = assign e X.env :: (assignEach es X.env).map (·.2) := by rfl) : PGs X (.Starred e p :: es) (gCons t u) := by
  refine ⟨fun pins s σ H vs us Q I r h => ?_⟩
  obtain ⟨v, vr, e1, h⟩ := h
  subst e1
  cases r with
  | cons r rr =>
    rw [hs]
    refine assignInOrder_cons (thn (h1.run pins s σ H _ _ _ I r h) fun _ s1 ⟨σ1, H1, I1, q1⟩ => ?_)
    exact h2.run pins s1 σ1 H1 _ _ Q I1 rr q1
theorem vals_take : ∀ {xs : List V} {us : List Value} (n : Nat), Vals xs us → Vals (xs.take n) (us.take n)
  | _, _, 0, _ => .nil
  | _, _, _ + 1, .nil => .nil
  | _, _, n + 1, .cons r t => .cons r (vals_take n t)
theorem vals_drop : ∀ {xs : List V} {us : List Value} (n : Nat), Vals xs us → Vals (xs.drop n) (us.drop n)
  | _, _, 0, h => h
  | _, _, _ + 1, .nil => .nil
  | _, _, n + 1, .cons _ t => vals_drop n t
theorem pg_star {es : List Expr} {k : Nat} {t : TGs} {n i : Nat} {pos : Pos} (hc : X.calm = true) (h : PGs X es t)
    (hn : (assignEach es X.env).length = n := by rfl) (hst : (assignEach es X.env).findIdx? (·.1) = some i := by rfl) : PG X (.Tuple es k pos) (gStar X.K n i t) := by
  refine ⟨fun pins s σ H v u Q I r hw => ?_⟩
  obtain ⟨a, xs, e1, hq, hi, hl, hw⟩ := hw
  subst e1
  cases r
  have fin : ∀ {its : List Value}, Vals xs its → xs.length ≤ sizeLine → ∀ (h' : Heap) (tk : Nat), (∀ b o, s.heap.get? b = some o → h'.get? b = some o) →
      wpAny (model X.prog X.w) X.A (assignInOrder ((assignEach es X.env).map (·.2)) (its.toArray.toList.take i ++ [.ref h'.objs.size] ++ (its.toArray.toList.drop i).drop (its.toArray.size + 1 - n))) (fun _ s' => ∃ σ' H', Inv X pins σ' H' s' ∧ Q σ' H') X.xe { s with heap := h'.push { cls := .type "list", data := .seq ((its.toArray.toList.drop i).take (its.toArray.size + 1 - n)).toArray }, toks := tk } := by
    intro its rv hz h' tk kk
    have I1 : Inv X pins σ H { s with heap := h', toks := tk } := I.kept (t' := tk) kk
    have hD : H h'.objs.size = none := I1.hok.fresh (Nat.le_refl _)
    have lv := rv.length
    have e2 : its.toArray.size = xs.length := by rw [List.size_toArray, lv]
    rw [e2]
    have rr : Vals ((xs.drop i).take (xs.length + 1 - n)) ((its.toArray.toList.drop i).take (xs.length + 1 - n)) := vals_take _ (vals_drop _ rv)
    have I2 := I1.laid (a := h'.objs.size) (o := .lst ((xs.drop i).take (xs.length + 1 - n))) (t' := tk) (h' := h'.push { cls := .type "list", data := .seq ((its.toArray.toList.drop i).take (xs.length + 1 - n)).toArray }) (fun b u e => Heap.get?_push_of_some _ e) (Nat.le_refl _)
      ⟨by rw [List.length_take, List.length_drop]; omega, _, 0, rr, Heap.get?_push_size _ rfl⟩
    refine h.run pins _ σ _ _ _ Q I2 ?_ (hw _ hD)
    exact ((vals_take i rv).append (.cons (show RelV (V.ref h'.objs.size) (Value.ref h'.objs.size) from rfl) .nil)).append (vals_drop _ (vals_drop i rv))
  rw [assign_Tuple]
  refine wpAny_bind (wpAny_standAt ?_)
  unfold unpack
  rw [hn, hst]
  rcases hq with hq | hq
  · obtain ⟨its, rv, ht, hz⟩ := I.tuple hq
    have lv := rv.length
    have e2 : its.toArray.size = xs.length := by rw [List.size_toArray, lv]
    exact wpAny_bind (wpAny_holding (unp_starT ht (I.ok.hd hc) hi (by rw [e2]; exact hl) (by rw [e2]; exact hz) (fin rv hz)))
  · obtain ⟨its, rv, ht, hz⟩ := I.list hq
    have lv := rv.length
    have e2 : its.toArray.size = xs.length := by rw [List.size_toArray, lv]
    exact wpAny_bind (wpAny_holding (unp_starL ht.isList (I.ok.hd hc) hi (by rw [e2]; exact hl) (by rw [e2]; exact hz) (fin rv hz)))
/-- either of two readings -/
theorem pe_either {e : Expr} {t u : TE} (h : PE X e t) (g : PE X e u) : PE X e (fun σ H Q => t σ H Q ∨ u σ H Q) :=
  ⟨fun pins s σ H Q I q => q.elim (h.run pins s σ H Q I) (g.run pins s σ H Q I)⟩
end
end VG

set_option maxRecDepth 100000
/-! New objects in heaps without some objects; lists of one's own. -/
namespace VG
open PySem PySem.Spec PyProof.Rows L2
theorem Exs.put {S : List Addr} {H G : Hp} {D : Addr} {o : HO} (e : Exs S H G) (h : H D = none) : Exs S H (L2.upd G D o) := fun b u z => by
  by_cases y : b ∈ S
  · rw [wos_in y] at z
    cases z
  · rw [wos_out y] at z ⊢
    have n : b ≠ D := fun x => by
      rw [x, h] at z
      cases z
    rw [upd_ne n]
    exact e.on y z
theorem fresh_out {S : List Addr} {G : Hp} {T : Addr} (hS : ∀ b ∈ S, ∃ o, G b = some o) (hT : G T = none) : T ∉ S := fun z => by
  obtain ⟨o, ho⟩ := hS T z
  rw [hT] at ho
  cases ho
theorem Dp.tupN {K : PySem.W.Frag} {S : List Addr} {G : Hp} {T : Addr} {xs : List V} {ds : List PyData} (hT : G T = none) (hS : T ∉ S) (h : DpAll K (wos S G) xs ds) : Dp K (wos S (upd G T (.tup xs))) (.ref T) (.tuple ds) :=
  .tup (SqT.of (by rw [wos_out hS, upd_same])) (DpAll.same (Exs.of (same_upd hT)) _ _ h)
/-- a list of one's own, not in S -/
def Lp (K : PySem.W.Frag) (S : List Addr) (H : Hp) (v : V) (ds : List PyData) : Prop := ∃ a xs, v = .ref a ∧ a ∉ S ∧ H a = some (.lst xs) ∧ DpAll K (wos S H) xs ds
theorem Lp.dp {K : PySem.W.Frag} {S : List Addr} {H : Hp} {v : V} {ds : List PyData} (h : Lp K S H v ds) : Dp K (wos S H) v (.list ds) := by
  obtain ⟨a, xs, rfl, n, e, d⟩ := h
  exact .lst (SqL.of (by rw [wos_out n]; exact e)) d
theorem Lp.on {K : PySem.W.Frag} {S : List Addr} {H H' : Hp} {v : V} {ds : List PyData} (h : Lp K S H v ds) (e : Exs S H H') : Lp K S H' v ds := by
  obtain ⟨a, xs, rfl, n, z, d⟩ := h
  exact ⟨a, xs, rfl, n, e.on n z, DpAll.same e _ _ d⟩
theorem Lp.new {K : PySem.W.Frag} {S : List Addr} {H : Hp} {L : Addr} {xs : List V} {ds : List PyData} (hL : H L = none) (hS : L ∉ S) (d : DpAll K (wos S H) xs ds) : Lp K S (upd H L (.lst xs)) (.ref L) ds :=
  ⟨L, xs, rfl, hS, upd_same, DpAll.same (Exs.of (same_upd hL)) _ _ d⟩
theorem Acc.lp {K : PySem.W.Frag} {S : List Addr} {D : Addr} {H : Hp} {ds : List PyData} (c : Acc K S D H ds) (h : D ∉ S) : Lp K S H (.ref D) ds := by
  obtain ⟨acc, h1, h2⟩ := c.ex
  exact ⟨D, acc, rfl, h, h1, DpAll.same (wos_less fun b z => List.mem_cons_of_mem _ z) _ _ h2⟩
theorem Acc.len {K : PySem.W.Frag} {S : List Addr} {D : Addr} {H : Hp} {ds : List PyData} (c : Acc K S D H ds) : ∃ acc, H D = some (.lst acc) ∧ acc.length = ds.length := by
  obtain ⟨acc, h1, h2⟩ := c.ex
  exact ⟨acc, h1, DpAll.len h2⟩
theorem dpAll_cons {K : PySem.W.Frag} {H : Hp} {xs : List V} {d : PyData} {ds : List PyData} (h : DpAll K H xs (d :: ds)) : ∃ x r, xs = x :: r ∧ Dp K H x d ∧ DpAll K H r ds := by
  cases h with
  | cons a t => exact ⟨_, _, rfl, a, t⟩
theorem at0 {α : Type} (x : α) (r : List α) : atI (x :: r) 0 = some x := atI_nat (xs := x :: r) (j := 0) rfl
/-- one of the data -/
theorem dpAll_get {K : PySem.W.Frag} {H : Hp} : ∀ {xs : List V} {ds : List PyData} {i : Nat} {d : PyData}, DpAll K H xs ds → ds[i]? = some d → ∃ x, xs[i]? = some x ∧ Dp K H x d
  | _, _, 0, _, .cons h _, e => by
    cases e
    exact ⟨_, rfl, h⟩
  | _, _, i + 1, _, .cons _ t, e => dpAll_get (i := i) t e
/-- a list that grows, of data without lists, while all but S' stays -/
theorem Acc.putX {K : PySem.W.Frag} {S S' : List Addr} {D : Addr} {H G : Hp} {ds : List PyData} {d : PyData} {y : V} (c : Acc K S D H ds) (e : Exs S' H G) (s : ∀ b ∈ S', b ∈ S) (hD : D ∉ S') (hS : ∀ b ∈ S, ∃ ys, G b = some (.lst ys)) (n : noL d = true) (hy : Dp K G y d) :
    ∃ acc, G D = some (.lst acc) ∧ acc.length = ds.length ∧ Acc K S D (upd G D (.lst (acc ++ [y]))) (ds ++ [d]) := by
  have c2 := c.on (Exs.mono (fun b h => List.mem_cons_of_mem _ (s b h)) e) fun o h => e.on hD h
  obtain ⟨acc, h1, _⟩ := c2.ex
  exact c2.more (Dp.wosT (fun b hb => by
    rcases List.mem_cons.mp hb with rfl | hb
    · exact ⟨_, h1⟩
    · exact hS b hb) d y n hy)
/-- and with data that are there without D and S -/
theorem Acc.moreX {K : PySem.W.Frag} {S S' : List Addr} {D : Addr} {H G : Hp} {ds : List PyData} {d : PyData} {y : V} (c : Acc K S D H ds) (e : Exs S' H G) (s : ∀ b ∈ S', b ∈ S) (hD : D ∉ S') (hy : Dp K (wos (D :: S) G) y d) :
    ∃ acc, G D = some (.lst acc) ∧ acc.length = ds.length ∧ Acc K S D (upd G D (.lst (acc ++ [y]))) (ds ++ [d]) :=
  (c.on (Exs.mono (fun b h => List.mem_cons_of_mem _ (s b h)) e) fun o h => e.on hD h).more hy
/-! ### how deep data are (for == of data) -/
def Lay (k : Nat) (d : PyData) : Prop := d.canLay0 = true ∧ d.depth ≤ k
theorem lay_all {k : Nat} : ∀ {ds : List PyData}, (∀ d ∈ ds, Lay k d) → PyData.canLayAll0 ds = true ∧ PyData.depthAll ds ≤ k
  | [], _ => ⟨rfl, Nat.zero_le _⟩
  | d :: ds, h => by
    obtain ⟨a, b⟩ := lay_all (ds := ds) fun e he => h e (List.mem_cons_of_mem _ he)
    obtain ⟨c, e⟩ := h d List.mem_cons_self
    refine ⟨by simp only [PyData.canLayAll0, a, c, Bool.and_self], ?_⟩
    simp only [PyData.depthAll]
    exact Nat.max_le.mpr ⟨e, b⟩
theorem lay_list {k : Nat} {ds : List PyData} (h : ∀ d ∈ ds, Lay k d) : Lay (k + 1) (.list ds) := by
  obtain ⟨a, b⟩ := lay_all h
  refine ⟨by simp only [PyData.canLay0, a], ?_⟩
  simp only [PyData.depth]
  omega
theorem lay_tup {k : Nat} {ds : List PyData} (h : ∀ d ∈ ds, Lay k d) : Lay (k + 1) (.tuple ds) := by
  obtain ⟨a, b⟩ := lay_all h
  refine ⟨by simp only [PyData.canLay0, a], ?_⟩
  simp only [PyData.depth]
  omega
theorem lay_int (i : Int) : Lay 0 (.int i) := ⟨by simp only [PyData.canLay0], by simp [PyData.depth]⟩
theorem lay_bool (i : Bool) : Lay 0 (.bool i) := ⟨by simp only [PyData.canLay0], by simp [PyData.depth]⟩
theorem Lay.up {k m : Nat} {d : PyData} (h : Lay k d) (e : k ≤ m) : Lay m d := ⟨h.1, Nat.le_trans h.2 e⟩
theorem Lay.shaped {k : Nat} {d : PyData} (h : Lay k d) (e : k ≤ 64 := by decide) : SeqAt.shaped d = true := by
  show (PyData.canLay0 d && decide (PyData.depth d ≤ 64)) = true
  rw [h.1, decide_eq_true (Nat.le_trans h.2 e)]
  rfl
theorem eqv_nil : ∀ ds : List PyData, PyData.eqv (.list ds) (.list []) = ds.isEmpty
  | [] => by simp [PyData.eqv, PyData.eqvAll]
  | _ :: _ => by simp [PyData.eqv, PyData.eqvAll]
end VG

set_option maxRecDepth 100000
/-! len and bool of an instance by own methods; data small enough to be shown, told by lists. -/
namespace VG
open PySem PySem.Spec PyProof.Rows L2
section
variable {X : Cx} {CX : CXT} {C g : Addr} {n : Nat} {sp : Sp} {E : XK}
/-- len(x), x an instance of C, whose __len__ stands at g -/
def rLenO (C : Addr) (sp : Sp) (E : XK) : List V → Hp → VK → Prop := fun xs H Q => ∃ a dx fs, xs = [.ref a] ∧ H a = some (.ins C dx fs) ∧ sp xs H (fun v H' => (∃ m : Nat, v = .int m ∧ m < 2 ^ 62) ∧ Q v H') E
theorem call_lenO (hs : PySem.W.findIn X.K (.ref C) "__len__" = some (some (.ref g))) (hf : PySem.W.isFn X.K (.ref g) = true) (F : FnR X.prog X.w X.K X.mg X.base CX n g sp) (hr : Room (n + 1) X.A) (hx : Passes CX X E) : CallR X (.builtin "len") (rLenO C sp E) := by
  intro pins s σ H xs us Q I r h
  obtain ⟨a, dx, fs, rfl, ha, q⟩ := h
  obtain ⟨u, rfl, ru⟩ := vals1 r
  cases (show u = Value.ref a from ru)
  obtain ⟨od, J⟩ := ins_inst I ha
  obtain ⟨m, hF⟩ := I.fr
  have hr1 : Room n X.A.in1 := Room.in1 hr
  refine PySem.W.len_K hF I.ok.mod.kin J hs hf (wpAny_mono (wpAny_call (SlX.run_at (us := [.ref a]) (ws := [.ref a]) F hr1 I.env0.in1 hx I (.cons rfl .nil) q)) (fun v s' z => ?_) fun _ _ x => x)
  obtain ⟨z', H', I', rz, ⟨y, rfl, hy⟩, qz⟩ := z
  obtain ⟨t, e⟩ := (show ∃ t, v = Value.int y t from rz)
  cases e
  exact ⟨⟨by omega, by omega⟩, .int y, H', I'.tok _, ⟨_, rfl⟩, qz⟩
/-- bool(x) of an object: its truth -/
theorem meets_boolO {P : Program} {w : World} {a : Addr} : PySem.MeetsIn P w (Builtin.«bool.__new__» ⟨[.type "bool", .ref a], []⟩) (fun A R s => wpAny (model P w) A.in1 (truthy (.ref a)) (fun b s' => R (.ok (.ret (.bool b))) s') (fun e s' => R (.error e) s') s) := by
  refine PySem.MeetsIn.of_wp fun A R s h => ?_
  obtain ⟨hp, g, d, tk, os⟩ := s
  have f1 := F.conv_sub_bool
  have q : ∀ {Q : Bool → Shared → Prop}, (∀ b s', R (.ok (.ret (.bool b))) s' → Q b s') → wpAny (model P w) A.in1 (truthy (.ref a)) Q (fun e s' => R (.error e) s') ⟨hp, g, d, tk, os⟩ := fun k => wpAny_mono h k fun _ _ x => x
  repeat (any_goals (first | assumption | (with_reducible apply q; intro b s' z) | wp_step))
  all_goals first | exact ⟨_, rfl, z⟩ | skip
/-- bool(x), x an instance of C, whose __bool__ stands at g -/
def rBoolO (C : Addr) (sp : Sp) (E : XK) : List V → Hp → VK → Prop := fun xs H Q => ∃ a dx fs, xs = [.ref a] ∧ H a = some (.ins C dx fs) ∧ sp xs H (fun v H' => (∃ b, v = .bl b) ∧ Q v H') E
theorem call_boolO (hs : PySem.W.findIn X.K (.ref C) "__bool__" = some (some (.ref g))) (hf : PySem.W.isFn X.K (.ref g) = true) (G : FnR X.prog X.w X.K X.mg X.base CX n g sp) (hr : Room (n + 2) X.A) (hx : Passes CX X E) : CallR X (.type "bool") (rBoolO C sp E) := by
  intro pins s σ H xs us Q I r h
  obtain ⟨a, dx, fs, rfl, ha, q⟩ := h
  obtain ⟨u, rfl, ru⟩ := vals1 r
  cases (show u = Value.ref a from ru)
  obtain ⟨od, J⟩ := ins_inst I ha
  obtain ⟨m, hF⟩ := I.fr
  have hr2 : Room n X.A.in1.in1 := Room.in1 (Room.in1 hr)
  refine callType_newIn F.called_bool F.newNe_bool (F.typeCall_bool_1 _) (F.newCall_bool_1 _) (fun obj => F.args_object_init_2 obj _) F.entry_bool_new meets_boolO ?_
  refine PySem.W.truthy_K hF I.ok.mod.kin J hs hf (wpAny_mono (wpAny_call (SlX.run_at (us := [.ref a]) (ws := [.ref a]) G hr2 I.env0.in1.in1 hx I (.cons rfl .nil) q)) (fun v s' z => ?_) fun _ _ x => x)
  obtain ⟨z', H', I', rz, ⟨y, rfl⟩, qz⟩ := z
  cases (show v = Value.bool y from rz)
  exact ⟨rfl, .bl y, H', I', rfl, qz⟩
end
/-- tuple(x), its reading named (for comprehensions) -/
def rTupOf (K : PySem.W.Frag) : List V → Hp → VK → Prop := fun xs H Q => ∃ p ys, xs = [V.ref p] ∧ ((SqL K H p ys ∧ ∀ l, H l = none → Q (.ref l) (upd H l (.tup ys))) ∨ (SqT K H p ys ∧ Q (.ref p) H))
theorem call_tupleK {X : Cx} : CallR X (.type "tuple") (rTupOf X.K) := call_tuple_of
/-! ### small data, told by lists -/
structure Smk (k m : Nat) (d : PyData) : Prop where
  sm : VG.sm d = true
  dp : d.depth ≤ k
  bk : d.bulk ≤ m
theorem smk_int {i : Int} (h : i.natAbs < 10 ^ 90) : Smk 0 0 (.int i) := ⟨by simp only [VG.sm]; exact decide_eq_true h, by simp [PyData.depth], by simp [PyData.bulk]⟩
theorem smk_bool (b : Bool) : Smk 0 0 (.bool b) := ⟨rfl, by simp [PyData.depth], by simp [PyData.bulk]⟩
theorem smk_str {z : Str} {m : Nat} (h : PyData.strOk z = true) (hm : z.cps.size ≤ m) : Smk 0 m (.str z) := ⟨by simp only [VG.sm]; exact h, by simp [PyData.depth], by simp only [PyData.bulk]; exact hm⟩
theorem Smk.up {k m k' m' : Nat} {d : PyData} (h : Smk k m d) (e : k ≤ k') (f : m ≤ m') : Smk k' m' d := ⟨h.sm, Nat.le_trans h.dp e, Nat.le_trans h.bk f⟩
theorem smk_all {k m : Nat} : ∀ {ds : List PyData}, (∀ d ∈ ds, Smk k m d) → smAll ds = true ∧ PyData.depthAll ds ≤ k ∧ PyData.bulkAll ds ≤ ds.length * (m + 1)
  | [], _ => ⟨rfl, Nat.zero_le _, Nat.zero_le _⟩
  | d :: ds, h => by
    obtain ⟨a, b, c⟩ := smk_all (ds := ds) fun e he => h e (List.mem_cons_of_mem _ he)
    have z := h d List.mem_cons_self
    refine ⟨?_, ?_, ?_⟩
    · simp only [VG.smAll, z.sm, a, Bool.and_self]
    · simp only [PyData.depthAll]
      exact Nat.max_le.mpr ⟨z.dp, b⟩
    · simp only [PyData.bulkAll, List.length_cons, Nat.succ_mul]
      have := z.bk
      omega
theorem smk_list {k m n : Nat} {ds : List PyData} (h : ∀ d ∈ ds, Smk k m d) (hn : ds.length ≤ n) : Smk (k + 1) (n * (m + 1)) (.list ds) := by
  obtain ⟨a, b, c⟩ := smk_all h
  refine ⟨by simp only [VG.sm]; exact a, by simp only [PyData.depth]; omega, ?_⟩
  simp only [PyData.bulk]
  exact Nat.le_trans c (Nat.mul_le_mul_right _ hn)
theorem smk_tup {k m n : Nat} {ds : List PyData} (h : ∀ d ∈ ds, Smk k m d) (hn : ds.length ≤ n) : Smk (k + 1) (n * (m + 1)) (.tuple ds) := by
  obtain ⟨a, b, c⟩ := smk_all h
  refine ⟨by simp only [VG.sm]; exact a, by simp only [PyData.depth]; omega, ?_⟩
  simp only [PyData.bulk]
  exact Nat.le_trans c (Nat.mul_le_mul_right _ hn)
theorem Smk.Sm {k m : Nat} {d : PyData} (h : Smk k m d) (e : k ≤ 40 := by decide) (f : m ≤ 100000 := by decide) : VG.Sm d := ⟨h.sm, Nat.le_trans h.dp e, Nat.le_trans h.bk f⟩
/-! ### == of data -/
mutual
def noDict : PyData → Bool
  | .dict _ => false
  | .list ds => noDicts ds
  | .tuple ds => noDicts ds
  | _ => true
def noDicts : List PyData → Bool
  | [] => true
  | d :: ds => noDict d && noDicts ds
end
theorem noDicts_of {ds : List PyData} (h : ∀ d ∈ ds, noDict d = true) : noDicts ds = true := by
  induction ds with
  | nil => rfl
  | cons d ds ih =>
    show (noDict d && noDicts ds) = true
    rw [h d List.mem_cons_self, ih fun e he => h e (List.mem_cons_of_mem _ he)]
    rfl
mutual
theorem eqv_refl : ∀ d : PyData, noDict d = true → PyData.eqv d d = true
  | .none, _ => by simp only [PyData.eqv]
  | .bool _, _ => by simp only [PyData.eqv, beq_self_eq_true]
  | .int _, _ => by simp only [PyData.eqv, beq_self_eq_true]
  | .str _, _ => by simp only [PyData.eqv, beq_self_eq_true]
  | .list xs, h => by simp only [PyData.eqv]; exact eqv_reflAll xs h
  | .tuple xs, h => by simp only [PyData.eqv]; exact eqv_reflAll xs h
  | .dict _, h => by cases h
theorem eqv_reflAll : ∀ ds : List PyData, noDicts ds = true → PyData.eqvAll ds ds = true
  | [], _ => by simp only [PyData.eqvAll]
  | d :: ds, h => by
    obtain ⟨a, b⟩ := Bool.and_eq_true_iff.mp (show (noDict d && noDicts ds) = true from h)
    simp only [PyData.eqvAll, eqv_refl d a, eqv_reflAll ds b, Bool.and_self]
end
theorem eqv_len : ∀ {xs ys : List PyData}, xs.length ≠ ys.length → PyData.eqvAll xs ys = false
  | [], [], h => absurd rfl h
  | [], _ :: _, _ => by simp only [PyData.eqvAll]
  | _ :: _, [], _ => by simp only [PyData.eqvAll]
  | x :: xs, y :: ys, h => by
    have z := eqv_len (xs := xs) (ys := ys) fun e => h (by rw [List.length_cons, List.length_cons, e])
    simp only [PyData.eqvAll, z, Bool.and_false]
theorem eqv_lens {xs ys : List PyData} (h : xs.length ≠ ys.length) : PyData.eqv (.list xs) (.list ys) = false := by
  simp only [PyData.eqv]
  exact eqv_len h
end VG

set_option maxRecDepth 100000
set_option linter.unusedVariables false
namespace Lw
open PySem PySem.Spec PyProof.Rows L2 VG
section
variable {P : Program} {w : World} {K : PySem.W.Frag} {mg : Str → Option Value} {base : Heap}
def spLowest : Sp := fun vs H Q _ => ∃ (t b : Int), vs = [.int t, .int b] ∧ 0 < b ∧ b.natAbs < 2 ^ 8000 ∧ ∀ T, H T = none → Q (.ref T) (upd H T (.tup [.int (low t b).1, .int (low t b).2]))
theorem gcd_fits {t b : Int} (h : 0 < b) (hb : b.natAbs < 2 ^ 8000) : CDivW t (Nat.gcd t.natAbs b.natAbs : Nat) ∧ CDivW b (Nat.gcd t.natAbs b.natAbs : Nat) := by
  have h0 : 0 < b.natAbs := by omega
  have g0 : 0 < Nat.gcd t.natAbs b.natAbs := Nat.gcd_pos_of_pos_right _ h0
  have g1 : Nat.gcd t.natAbs b.natAbs < 2 ^ 8000 := Nat.lt_of_le_of_lt (Nat.gcd_le_right _ h0) hb
  have c : ∀ i : Int, CDivW i (Nat.gcd t.natAbs b.natAbs : Nat) := fun i => wide_div (b := 8000) (by omega) (by rw [Int.natAbs_natCast]; exact g1) (by decide) (by decide)
  exact ⟨c t, c b⟩
/-- the law's own lowest terms, by Euclid -/
theorem scLow : FnScope ["_law_top", "_law_bottom", "_law_one", "_law_other"] ["_law_top", "_law_bottom"] (defScope s__law_low) := ⟨rfl, rfl, rfl, by decide +kernel, rfl, by decide +kernel, by decide +kernel⟩
theorem gcd_step {a b : Int} (ha : 0 ≤ a) (hb : 0 < b) : Nat.gcd b.natAbs (a % b).natAbs = Nat.gcd a.natAbs b.natAbs := by
  have e : (a % b).natAbs = a.natAbs % b.natAbs := by
    obtain ⟨m, rfl⟩ := Int.eq_ofNat_of_zero_le ha
    obtain ⟨n, rfl⟩ := Int.eq_ofNat_of_zero_le (Int.le_of_lt hb)
    rfl
  rw [e, Nat.gcd_comm a.natAbs b.natAbs, Nat.gcd_rec b.natAbs a.natAbs, Nat.gcd_comm]
theorem ok_low {f : Addr} {fd : FuncData} (F : Fun K "_law_low" "_law_low" s__law_low f fd) (mi : mg "int" = none) (ma : mg "abs" = none) : FnOk P w K mg base CX0 1 f fd ["_law_top", "_law_bottom"] spLowest := by
  refine F.ok scLow (fun vs H Q E h => ?_) (fun cdv A outer s H vs Q E hr h => ?_)
  · obtain ⟨t, b, rfl, _⟩ := h
    rfl
  · obtain ⟨t, b, rfl, hb, hs, q⟩ := h
    have nd := scLow.nd
    refine ⟨_, pss_cons (ps_par (i := 2) (j := 3) (by rfl) nd rfl rfl (by decide) rfl rfl (pa_cons (pe_callB call_abs (by rfl) ma (by decide +kernel) (pa_cons (pv 0) pa_nil)) (pa_cons (pv 1) pa_nil)) (by rfl))
      (pss_cons (ps_while PassesOwn.never (pt_cmpR op_gt (pv 3) pe_int (nomark _))
        (pss_one (ps_par (i := 2) (j := 3) (by rfl) nd rfl rfl (by decide) rfl rfl (pa_cons (pv 3) (pa_cons (pe_op op_mod (pe_callTy call_int1 (by rfl) mi (by decide +kernel) (pa_cons (pv 2) pa_nil)) (pv 3)) pa_nil)) (by rfl))))
      (pss_one (ps_ret (pe_tup (pa_cons (pe_op op_fdivW (pv 0) (pv 2)) (pa_cons (pe_op op_fdivW (pv 1) (pv 2)) pa_nil)))))), ?_⟩
    have ab : (if t < 0 then -t else t) = (t.natAbs : Int) := by
      by_cases z : t < 0
      · rw [if_pos z]; omega
      · rw [if_neg z]; omega
    refine ⟨_, rfl, t, rfl, _, rfl, _, _, rfl, ?_⟩
    refine while_by (fun σ G => G = H ∧ ∃ x y : Int, σ = [some (.int t), some (.int b), some (.int x), some (.int y)] ∧ 0 ≤ x ∧ 0 ≤ y ∧ Nat.gcd x.natAbs y.natAbs = Nat.gcd t.natAbs b.natAbs)
      (fun σ _ => match σ with | [_, _, _, some (.int y)] => y.natAbs | _ => 0) ⟨rfl, _, _, rfl, by rw [ab]; omega, by omega, by rw [ab]; rfl⟩ ?_ ?_
    · rintro σ G ⟨rfl, x, y, rfl, hx, hy, hg⟩
      refine ⟨_, rfl, _, _, rfl, rfl, _, rfl, ?_⟩
      refine ite2 (fun hlt => ?_) (fun hge => ?_)
      · have hlt : (0 : Int) < y := of_decide_eq_true hlt
        refine ⟨_, rfl, _, rfl, .inl ⟨_, rfl, _, rfl, _, _, rfl, rfl, hlt, _, _, rfl, ⟨rfl, y, x % y, rfl, hy, Int.emod_nonneg _ (by omega), (gcd_step hx hlt).trans hg⟩, ?_⟩⟩
        show (x % y).natAbs < y.natAbs
        have h1 := Int.emod_lt_of_pos x hlt
        have h2 := Int.emod_nonneg x (show y ≠ 0 by omega)
        omega
      · have hy0 : y = 0 := by
          have z : ¬ (0 : Int) < y := fun z => hge (decide_eq_true z)
          omega
        subst hy0
        have e : x = (Nat.gcd t.natAbs b.natAbs : Nat) := by
          rw [← hg, show (0 : Int).natAbs = 0 from rfl, Nat.gcd_zero_right]
          omega
        obtain ⟨c1, c2⟩ := gcd_fits (t := t) hb hs
        subst e
        refine ⟨_, rfl, _, rfl, _, _, rfl, rfl, c1, _, rfl, _, rfl, _, _, rfl, rfl, c2, small_line (by show 2 ≤ 1000; decide), fun T hT => q T hT⟩
    · rintro σ G Q1 Q2 hq ⟨v, e1, i, j, e2, e3, k, e4, z⟩
      exact ⟨v, e1, i, j, e2, e3, k, e4, hq _ _ z⟩
theorem Src.lst {H : Hp} {p q : Addr} {cells : List Int} (h : Src H p q cells) : ∃ ys, H p = some (.lst ys) := let ⟨_, _, _, _, e, _⟩ := h.ex; ⟨_, e⟩
theorem Src.out {H : Hp} {p q D : Addr} {cells : List Int} (h : Src H p q cells) (hD : H D = none) : D ≠ p ∧ D ≠ q := ⟨h.ne1 hD, h.ne2 hD⟩
theorem Src.put {H : Hp} {p q D : Addr} {cells : List Int} {o : HO} (h : Src H p q cells) (n : D ≠ p ∧ D ≠ q) : Src (upd H D o) p q cells := h.over n.1 n.2
theorem But.exs {p : Addr} {H H' : Hp} (b : But p H H') : Exs [p] H H' := Exs.but List.mem_cons_self b
def spLength (K : PySem.W.Frag) : Sp := fun vs H Q _ => ∃ (p q : Addr) (cells : List Int), vs = [.ref p] ∧ Src H p q cells ∧ ∀ (T : Addr) (s : Int × Int) (H' : Hp), T ≠ p → H' T = some (.tup [.int s.1, .int s.2]) → Ln s → Src H' p q cells → Exs [p] H H' → Q (.ref T) H'
theorem scLen2 : FnScope ["_law_src", "_law_way"] ["_law_src"] (defScope s__law_length) := ⟨rfl, rfl, rfl, by decide +kernel, rfl, by decide +kernel, by decide +kernel⟩
theorem ok_length {f fD fL : Addr} {fd fdD fdL : FuncData} (F : Fun K "_law_length" "_law_length" s__law_length f fd) (GD : FnOk P w K mg base CX0 1 fD fdD ["_law_src", "_law_many"] spDraw) (mD : mg "_law_draw" = some (.ref fD)) (kD : PySem.W.keepIn K (.ref fD) = true) (bD : Binds K fdD ["_law_src", "_law_many"] [])
    (GL : FnOk P w K mg base CX0 1 fL fdL ["_law_top", "_law_bottom"] spLowest) (mL : mg "_law_low" = some (.ref fL)) (kL : PySem.W.keepIn K (.ref fL) = true) (bL : Binds K fdL ["_law_top", "_law_bottom"] []) : FnOk P w K mg base CX0 2 f fd ["_law_src"] (spLength K) := by
  refine F.ok scLen2 (fun vs H Q E h => ?_) (fun cdv A outer s H vs Q E hr h => ?_)
  · obtain ⟨p, q, cells, rfl, _⟩ := h
    rfl
  · obtain ⟨p, q, cells, rfl, hS, k⟩ := h
    have nd := scLen2.nd
    refine ⟨_, pss_cons (ps_set (i := 1) nd rfl (Or.inl rfl) (pe_call GD hr (by rfl) mD kD bD .nil pass0 (pa_cons (pv 0) (pa_cons pe_int pa_nil))))
      (pss_cons (ps_if (pt_cmpR op_lt (pv 1) pe_int (nomark _)) (pss_one (ps_ret (pe_tup (pa_cons (pe_call GD hr (by rfl) mD kD bD .nil pass0 (pa_cons (pv 0) (pa_cons pe_int pa_nil))) (pa_cons pe_int pa_nil))))) pss_nil)
      (pss_cons (ps_if (pt_cmpR op_lt (pv 1) pe_int (nomark _)) (pss_one (ps_ret (pe_call GL hr (by rfl) mL kL bL .nil pass0 (pa_cons (pe_call GD hr (by rfl) mD kD bD .nil pass0 (pa_cons (pv 0) (pa_cons pe_int pa_nil)))
          (pa_cons (pe_op op_add pe_int (pe_call GD hr (by rfl) mD kD bD .nil pass0 (pa_cons (pv 0) (pa_cons pe_int pa_nil)))) pa_nil))))) pss_nil)
      (pss_one (ps_ret (pe_tup (pa_cons (pe_call GD hr (by rfl) mD kD bD .nil pass0 (pa_cons (pv 0) (pa_cons (pe_op op_pow pe_int pe_int) pa_nil))) (pa_cons pe_int pa_nil))))))), ?_⟩
    have two : (2 : Nat) ≤ sizeLine := by decide
    have e6 : (10 : Int) ^ 6 = 1000000 := by decide
    have fin : ∀ {s : Int × Int} {G : Hp} {T : Addr}, Ln s → Src G p q cells → But p H G → G T = none → Q (.ref T) (upd G T (.tup [.int s.1, .int s.2])) := fun l sG bG hT =>
      k _ _ _ (sG.out hT).1 upd_same l (sG.put (sG.out hT)) ((But.exs bG).trans (Exs.of (same_upd hT)))
    refine ⟨_, rfl, p, q, cells, 10, rfl, hS, by decide, by decide, fun d1 G1 a1 c1 S1 B1 => ?_⟩
    refine ⟨_, rfl, _, _, rfl, rfl, _, rfl, ite2 (fun _ => ?_) (fun _ => ?_)⟩
    · exact ⟨_, rfl, p, q, cells, 6, rfl, S1, by decide, by decide, fun d2 G2 a2 c2 S2 B2 => ⟨two, fun T hT => fin (s := (d2, 1)) (one_ln a2 (by omega)) S2 (B1.trans B2) hT⟩⟩
    refine ⟨_, rfl, _, _, rfl, rfl, _, rfl, ite2 (fun _ => ?_) (fun _ => ?_)⟩
    · refine ⟨_, rfl, p, q, cells, 13, rfl, S1, by decide, by decide, fun d2 G2 a2 c2 S2 B2 => ?_⟩
      refine ⟨_, rfl, p, q, cells, 5, rfl, S2, by decide, by decide, fun d3 G3 a3 c3 S3 B3 => ?_⟩
      refine ⟨_, _, rfl, rfl, _, _, rfl, by omega, Nat.lt_of_lt_of_le (show (1 + d3).natAbs < 10 by omega) (Nat.le_of_lt (by decide +kernel)), fun T hT => fin (low_ln a2 c2 a3 c3) S3 ((B1.trans B2).trans B3) hT⟩
    · refine ⟨_, rfl, _, _, rfl, rfl, ⟨by decide, by decide, by decide⟩, p, q, cells, 10 ^ 6, rfl, S1, by decide, by decide, fun d2 G2 a2 c2 S2 B2 => ⟨two, fun T hT => fin (s := (d2, 1)) (one_ln a2 (by omega)) S2 (B1.trans B2) hT⟩⟩
theorem Src.lsts {H : Hp} {p q : Addr} {cells : List Int} (h : Src H p q cells) : ∀ b ∈ [p], ∃ ys, H b = some (.lst ys) := fun b hb => by
  rw [List.mem_singleton.mp hb]
  exact h.lst
theorem rat_at {H : Hp} {x : V} {s : Int × Int} (h : Dp K H x (ratT s)) : ∃ T, x = .ref T ∧ SqT K H T [.int s.1, .int s.2] := by
  obtain ⟨a, xs, rfl, hs, hd⟩ := dp_tup h
  obtain ⟨y, z, rfl, h1, h2⟩ := dpAll2 hd
  cases dp_int h1
  cases dp_int h2
  exact ⟨a, rfl, hs⟩
theorem ratP_dp {H : Hp} {T : Addr} {s : Int × Int} (h : SqT K H T [.int s.1, .int s.2]) : Dp K H (.ref T) (.tuple [.int s.1, .int s.2]) := .tup h (.cons (.int _) (.cons (.int _) .nil))
theorem okR_of {d : PyData} (h : isRat d = true) : okR d = true := by
  unfold okR
  rw [h, Bool.or_true]
/-- a ratio as it may be passed -/
def bareOf (s : Int × Int) (g : PyData) : Prop := g = ratT s ∨ (s.2 = 1 ∧ g = .int s.1)
theorem bare_noL {s : Int × Int} {g : PyData} (h : bareOf s g) : noL g = true := by
  rcases h with rfl | ⟨_, rfl⟩ <;> rfl
theorem bare_ok {s : Int × Int} {g : PyData} (hs : isRat (ratT s) = true) (h : bareOf s g) : okR g = true := by
  rcases h with rfl | ⟨_, rfl⟩
  · exact okR_of hs
  · rfl
def spBare (K : PySem.W.Frag) : Sp := fun vs H Q _ => ∃ (p q : Addr) (cells : List Int) (v : V) (s : Int × Int), vs = [.ref p, v] ∧ Src H p q cells ∧ Dp K H v (ratT s) ∧
  ∀ (x : V) (g : PyData) (H' : Hp), bareOf s g → Dp K H' x g → Src H' p q cells → Exs [p] H H' → Q x H'
theorem scBare : FnScope ["_law_src", "_law_one"] ["_law_src", "_law_one"] (defScope s__law_bare) := ⟨rfl, rfl, rfl, by decide +kernel, rfl, by decide +kernel, by decide +kernel⟩
theorem ok_bare {f fD : Addr} {fd fdD : FuncData} (F : Fun K "_law_bare" "_law_bare" s__law_bare f fd) (GD : FnOk P w K mg base CX0 1 fD fdD ["_law_src", "_law_many"] spDraw) (mD : mg "_law_draw" = some (.ref fD)) (kD : PySem.W.keepIn K (.ref fD) = true) (bD : Binds K fdD ["_law_src", "_law_many"] []) :
    FnOk P w K mg base CX0 2 f fd ["_law_src", "_law_one"] (spBare K) := by
  refine F.ok scBare (fun vs H Q E h => ?_) (fun cdv A outer s H vs Q E hr h => ?_)
  · obtain ⟨p, q, cells, v, s, rfl, _⟩ := h
    rfl
  · obtain ⟨p, q, cells, v, ⟨a, b⟩, rfl, hS, hv, k⟩ := h
    have nd := scBare.nd
    refine ⟨_, pss_one (ps_ret (pe_ifExp (PW.pt (pw_and (pt_cmpR op_eq (pe_ix ix_tup (pv 1) pe_int fun _ _ => rfl) pe_int (nomark _)) (pw_and1 (pt_cmpR op_eq (pe_call GD hr (by rfl) mD kD bD .nil pass0 (pa_cons (pv 0) (pa_cons pe_int pa_nil))) pe_int (nomark _)))))
      (pe_ix ix_tup (pv 1) pe_int fun _ _ => rfl) (pv 1))), ?_⟩
    obtain ⟨T, rfl, hT⟩ := rat_at hv
    refine ⟨_, rfl, _, _, _, _, rfl, rfl, hT, rfl, rfl, _, rfl, ?_⟩
    refine ite2 (fun h1 => ?_) (fun h1 => ?_)
    · have hb : b = 1 := V.int.inj (of_decide_eq_true h1)
      refine ⟨_, rfl, p, q, cells, 2, rfl, hS, by decide, by decide, fun d1 G1 a1 c1 S1 B1 => ⟨rfl, _, rfl, ?_⟩⟩
      have e1 := But.exs B1
      have hT1 : SqT K (wos [p] G1) T [.int a, .int b] := Same.tup e1 (sqT_wos hS.lsts hT)
      have hT2 : SqT K G1 T [.int a, .int b] := Same.tup wos_sub hT1
      refine ite2 (fun _ => ?_) (fun _ => ?_)
      · exact ⟨_, rfl, _, _, _, _, rfl, rfl, hT2, rfl, k _ _ G1 (.inr ⟨hb, rfl⟩) (.int _) S1 e1⟩
      · exact ⟨_, rfl, k _ _ G1 (.inl rfl) (ratP_dp (s := (a, b)) hT2) S1 e1⟩
    · exact iteF ⟨_, rfl, k _ _ H (.inl rfl) hv hS (fun _ _ z => z)⟩
/-- foot or cart -/
def layB (z : Str) : Prop := z = "foot" ∨ z = "cart"
def spLay (K : PySem.W.Frag) : Sp := fun vs H Q _ => ∃ (p q : Addr) (cells : List Int) (m : Int), vs = [.ref p, .int m] ∧ Src H p q cells ∧ 1 ≤ m ∧ m ≤ 2 ∧
  ∀ (z : Str) (H' : Hp), layB z → Src H' p q cells → Exs [p] H H' → Q (.str z) H'
theorem scLay : FnScope ["_law_src", "_law_layers"] ["_law_src", "_law_layers"] (defScope s__law_layer) := ⟨rfl, rfl, rfl, by decide +kernel, rfl, by decide +kernel, by decide +kernel⟩
theorem ok_lay {f fD : Addr} {fd fdD : FuncData} (F : Fun K "_law_layer" "_law_layer" s__law_layer f fd) (GD : FnOk P w K mg base CX0 1 fD fdD ["_law_src", "_law_many"] spDraw) (mD : mg "_law_draw" = some (.ref fD)) (kD : PySem.W.keepIn K (.ref fD) = true) (bD : Binds K fdD ["_law_src", "_law_many"] []) :
    FnOk P w K mg base CX0 2 f fd ["_law_src", "_law_layers"] (spLay K) := by
  refine F.ok scLay (fun vs H Q E h => ?_) (fun cdv A outer s H vs Q E hr h => ?_)
  · obtain ⟨p, q, cells, m, rfl, _⟩ := h
    rfl
  · obtain ⟨p, q, cells, m, rfl, hS, m1, m2, k⟩ := h
    refine ⟨_, pss_one (ps_ret (pe_ix ix_list (pe_lst (pa_cons pe_str (pa_cons pe_str pa_nil))) (pe_call GD hr (by rfl) mD kD bD .nil pass0 (pa_cons (pv 0) (pa_cons (pv 1) pa_nil))) fun _ _ => rfl)), ?_⟩
    refine ⟨by show 2 ≤ sizeLine; decide, fun D hD => ?_⟩
    have n1 := hS.ne1 hD
    have mD := same_upd (o := .lst [.str "foot", .str "cart"]) hD
    refine ⟨_, rfl, _, rfl, p, q, cells, m, rfl, hS.over n1 (hS.ne2 hD), by omega, Int.lt_of_le_of_lt m2 (by decide), fun r G a1 c1 S1 B1 => ?_⟩
    have e1 : Exs [p] H G := (Exs.of mD).trans (But.exs B1)
    have hG : G D = some (.lst [.str "foot", .str "cart"]) := (B1 D n1).trans upd_same
    have hr : r = 0 ∨ r = 1 := by omega
    rcases hr with rfl | rfl
    · exact ⟨_, _, _, _, rfl, rfl, SqL.of hG, rfl, k _ _ (.inl rfl) S1 e1⟩
    · exact ⟨_, _, _, _, rfl, rfl, SqL.of hG, rfl, k _ _ (.inr rfl) S1 e1⟩
end
end Lw

set_option maxRecDepth 100000
set_option linter.unusedVariables false
namespace Lw
open PySem PySem.Spec PyProof.Rows L2 VG
open TL (numL)
/-! ### words of steps -/
/-- a short word -/
def wdB (z : Str) : Prop := z.length ≤ 12 ∧ PyData.strOk z = true
/-- a name, a layer or a number that is not below zero -/
def Atom (d : PyData) : Prop := (∃ z, d = .str z ∧ wdB z) ∨ (okR d = true ∧ 0 ≤ (ratD d).1 ∧ (ratD d).1 ≤ 1000000 ∧ (ratD d).2 ≤ 60)
def txtD : PyData → Str
  | .str z => z
  | d => Tx (textL (ratD d).1 (ratD d).2)
theorem txt_num {d : PyData} (h : okR d = true) : txtD d = Tx (textL (ratD d).1 (ratD d).2) := by
  cases d <;> first | rfl | cases h
/-- the words of steps, one after another -/
def sepJ (wss : List (List Str)) : List Str := wss.foldl (fun a w => a ++ (if a = [] then [] else [(";" : Str)]) ++ w) []
theorem sepJ_snoc (wss : List (List Str)) (w : List Str) : sepJ (wss ++ [w]) = sepJ wss ++ (if sepJ wss = [] then [] else [(";" : Str)]) ++ w := by
  unfold sepJ
  rw [List.foldl_append]
  rfl
def LW (m : Nat) (R : PyData → List Str → Prop) (ds : List PyData) (ws : List Str) : Prop := ds.length ≤ m ∧ ∃ wss, Paired R ds wss ∧ ws = sepJ wss
def Leaf (d : PyData) (ws : List Str) : Prop := ∃ (u : Str) (items : List PyData), d = .tuple (.str u :: items) ∧ ws = u :: items.map txtD ∧ wdB u ∧ u ≠ "if" ∧ u ≠ "repeat" ∧ items.length ≤ 4 ∧ ∀ e ∈ items, Atom e
def IfW (R : List PyData → List Str → Prop) (d : PyData) (ws : List Str) : Prop := ∃ (as d1 d2 : List PyData) (w1 w2 : List Str), as.length = 4 ∧ d = .tuple (.str "if" :: (as ++ [.tuple d1, .tuple d2])) ∧ (∀ e ∈ as, Atom e) ∧ R d1 w1 ∧ R d2 w2 ∧
  ws = ("if" : Str) :: (as.map txtD ++ (("(" : Str) :: (w1 ++ ((")" : Str) :: ("else" : Str) :: ("(" : Str) :: (w2 ++ [(")" : Str)])))))
def RepW (R : List PyData → List Str → Prop) (d : PyData) (ws : List Str) : Prop := ∃ (k : Int) (d1 : List PyData) (w1 : List Str), d = .tuple [.str "repeat", .int k, .tuple d1] ∧ 0 ≤ k ∧ k ≤ 9 ∧ R d1 w1 ∧
  ws = ("repeat" : Str) :: txtD (.int k) :: ("(" : Str) :: (w1 ++ [(")" : Str)])
def StW (R : List PyData → List Str → Prop) (d : PyData) (ws : List Str) : Prop := Leaf d ws ∨ IfW R d ws ∨ RepW R d ws
/-- a step, with at most n steps about one another in it -/
def SW : Nat → PyData → List Str → Prop
  | 0 => StW fun _ _ => False
  | n + 1 => StW (LW 2 (SW n))
theorem atom_int {k : Int} (h0 : 0 ≤ k) (h1 : k ≤ 1000000) : Atom (.int k) := .inr ⟨rfl, h0, h1, show (1 : Int) ≤ 60 by decide⟩
theorem atom_str {z : Str} (h : wdB z) : Atom (.str z) := .inl ⟨z, rfl, h⟩
theorem atom_len {d : PyData} (h : Atom d) (n : ∀ z, d ≠ .str z) : okR d = true ∧ (ratD d).1.natAbs < 10 ^ 60 ∧ (ratD d).2.natAbs < 10 ^ 60 := by
  rcases h with ⟨z, e, _⟩ | ⟨h1, h2, h3, h4⟩
  · exact absurd e (n z)
  · have hp := okR_pos h1
    have q : (1000001 : Nat) ≤ 10 ^ 60 := by decide
    exact ⟨h1, Nat.lt_of_lt_of_le (by omega) q, Nat.lt_of_lt_of_le (by omega) q⟩
/-! how long words are -/
theorem numL_dig (n : Nat) : ∀ c ∈ numL n, c < 128 := fun c h => by
  have := TL.numL_digits n c h
  omega
theorem topL_ok {t : Int} (h0 : 0 ≤ t) (h1 : t ≤ 1000000) : (topL t).length ≤ 7 ∧ ∀ c ∈ topL t, c < 128 := by
  unfold topL
  rw [if_neg (by omega)]
  exact ⟨TL.numL_len (k := 7) (by decide) (by omega), numL_dig _⟩
theorem txt_wd {d : PyData} (h : Atom d) : wdB (txtD d) := by
  rcases h with ⟨z, rfl, h⟩ | ⟨h1, h2, h3, h4⟩
  · exact h
  · rw [txt_num h1]
    have hp := okR_pos h1
    obtain ⟨l1, c1⟩ := topL_ok h2 h3
    have l2 : (numL (ratD d).2.natAbs).length ≤ 2 := TL.numL_len (k := 2) (by decide) (by omega)
    unfold textL
    refine ⟨?_, ?_⟩
    · rw [tx_len, List.length_append]
      split
      · simp; omega
      · rw [List.length_cons]; omega
    · unfold PyData.strOk
      rw [Array.all_eq_true_iff_forall_mem]
      intro c hc
      have hc : c ∈ topL (ratD d).1 ++ (if (ratD d).2 = 1 then [] else 47 :: numL (ratD d).2.natAbs) := Array.mem_toList_iff.mpr hc
      have : c < 128 := by
        rcases List.mem_append.mp hc with hc | hc
        · exact c1 c hc
        · by_cases z : (ratD d).2 = 1
          · rw [if_pos z] at hc
            cases hc
          · rw [if_neg z] at hc
            rcases List.mem_cons.mp hc with rfl | hc
            · decide
            · exact numL_dig _ _ hc
      exact decide_eq_true (by omega)
abbrev Sz (c : Nat) (ws : List Str) : Prop := ws.length ≤ c ∧ ∀ w ∈ ws, wdB w
theorem wd_of {z : Str} (h : z.length ≤ 12 ∧ PyData.strOk z = true := by decide +kernel) : wdB z := h
theorem Sz.map {as : List PyData} (h : ∀ e ∈ as, Atom e) : ∀ w ∈ as.map txtD, wdB w := fun w hw => by
  obtain ⟨e, he, rfl⟩ := List.mem_map.mp hw
  exact txt_wd (h e he)
theorem st_size {R : List PyData → List Str → Prop} {c : Nat} (hR : ∀ ds ws, R ds ws → Sz c ws) {d : PyData} {ws : List Str} (h : StW R d ws) : Sz (10 + 2 * c) ws := by
  rcases h with ⟨u, items, _, rfl, hu, _, _, hl, ha⟩ | ⟨as, d1, d2, w1, w2, hl, _, ha, r1, r2, rfl⟩ | ⟨k, d1, w1, _, k0, k9, r1, rfl⟩
  · refine ⟨by simp; omega, fun w hw => ?_⟩
    rcases List.mem_cons.mp hw with rfl | hw
    · exact hu
    · exact Sz.map ha w hw
  · obtain ⟨l1, a1⟩ := hR _ _ r1
    obtain ⟨l2, a2⟩ := hR _ _ r2
    refine ⟨by simp [hl]; omega, fun w hw => ?_⟩
    simp only [List.mem_cons, List.mem_append, List.not_mem_nil, or_false] at hw
    rcases hw with rfl | hw | rfl | hw | rfl | rfl | rfl | hw | rfl
    · exact wd_of
    · exact Sz.map ha w hw
    · exact wd_of
    · exact a1 w hw
    · exact wd_of
    · exact wd_of
    · exact wd_of
    · exact a2 w hw
    · exact wd_of
  · obtain ⟨l1, a1⟩ := hR _ _ r1
    refine ⟨by simp; omega, fun w hw => ?_⟩
    simp only [List.mem_cons, List.mem_append, List.not_mem_nil, or_false] at hw
    rcases hw with rfl | rfl | rfl | hw | rfl
    · exact wd_of
    · exact txt_wd (atom_int k0 (by omega))
    · exact wd_of
    · exact a1 w hw
    · exact wd_of
theorem sep_size {c : Nat} {wss : List (List Str)} (h : ∀ ws ∈ wss, Sz c ws) : Sz (wss.length * (c + 1)) (sepJ wss) := by
  have : ∀ n, n ≤ wss.length → Sz (n * (c + 1)) (sepJ (wss.take n)) := fun n => by
    induction n with
    | zero => exact fun _ => ⟨by simp [sepJ], by simp [sepJ]⟩
    | succ n ih =>
      intro hn
      obtain ⟨l, a⟩ := ih (by omega)
      have e : wss.take (n + 1) = wss.take n ++ [wss[n]] := by
        rw [List.take_add_one, List.getElem?_eq_getElem (by omega)]
        rfl
      obtain ⟨l2, a2⟩ := h wss[n] (List.getElem_mem _)
      rw [e, sepJ_snoc]
      refine ⟨?_, fun w hw => ?_⟩
      · have : (if sepJ (wss.take n) = [] then [] else [(";" : Str)]).length ≤ 1 := by split <;> simp
        rw [List.length_append, List.length_append, Nat.add_mul]
        omega
      · rcases List.mem_append.mp hw with hw | hw
        · rcases List.mem_append.mp hw with hw | hw
          · exact a w hw
          · split at hw
            · cases hw
            · rw [List.mem_singleton.mp hw]
              exact wd_of
        · exact a2 w hw
  have e := this wss.length (Nat.le_refl _)
  rw [List.take_length] at e
  exact e
theorem paired_mem2 {α β : Type} {R : α → β → Prop} : ∀ {xs : List α} {ys : List β} {y : β}, Paired R xs ys → y ∈ ys → ∃ x ∈ xs, R x y
  | _, _, _, .nil, h => by cases h
  | _, _, _, .cons r t, h => by
    rcases List.mem_cons.mp h with rfl | h
    · exact ⟨_, List.mem_cons_self, r⟩
    · obtain ⟨x, hx, hr⟩ := paired_mem2 t h
      exact ⟨x, List.mem_cons_of_mem _ hx, hr⟩
theorem paired_len2 {α β : Type} {R : α → β → Prop} : ∀ {xs : List α} {ys : List β}, Paired R xs ys → xs.length = ys.length
  | _, _, .nil => rfl
  | _, _, .cons _ t => congrArg (· + 1) (paired_len2 t)
theorem lw_size {R : PyData → List Str → Prop} {m c : Nat} (hR : ∀ d ws, R d ws → Sz c ws) {ds : List PyData} {ws : List Str} (h : LW m R ds ws) : Sz (m * (c + 1)) ws := by
  obtain ⟨l, wss, pa, rfl⟩ := h
  obtain ⟨l2, a⟩ := sep_size (c := c) (wss := wss) fun ws hw => by
    obtain ⟨d, _, hr⟩ := paired_mem2 pa hw
    exact hR d ws hr
  have e := paired_len2 pa
  exact ⟨Nat.le_trans l2 (Nat.mul_le_mul_right _ (by omega)), a⟩
def szN : Nat → Nat
  | 0 => 10
  | n + 1 => 10 + 2 * (2 * (szN n + 1))
theorem sw_size : ∀ (n : Nat) {d : PyData} {ws : List Str}, SW n d ws → Sz (szN n) ws
  | 0, d, ws, h => st_size (c := 0) (fun _ _ z => z.elim) h
  | n + 1, d, ws, h => st_size (fun ds ws z => lw_size (fun d ws z => sw_size n z) z) h
theorem sw_mono {R R' : List PyData → List Str → Prop} (h : ∀ ds ws, R ds ws → R' ds ws) {d : PyData} {ws : List Str} : StW R d ws → StW R' d ws := by
  rintro (z | ⟨as, d1, d2, w1, w2, hl, e, ha, r1, r2, e2⟩ | ⟨k, d1, w1, e, k0, k9, r1, e2⟩)
  · exact .inl z
  · exact .inr (.inl ⟨as, d1, d2, w1, w2, hl, e, ha, h _ _ r1, h _ _ r2, e2⟩)
  · exact .inr (.inr ⟨k, d1, w1, e, k0, k9, h _ _ r1, e2⟩)
theorem lw_mono {R R' : PyData → List Str → Prop} {m m' : Nat} (hm : m ≤ m') (h : ∀ d ws, R d ws → R' d ws) {ds : List PyData} {ws : List Str} (z : LW m R ds ws) : LW m' R' ds ws := by
  obtain ⟨l, wss, pa, e⟩ := z
  exact ⟨Nat.le_trans l hm, wss, L2.Paired.mapP pa fun _ _ z => h _ _ z, e⟩
theorem sw_up : ∀ (n : Nat) {d : PyData} {ws : List Str}, SW n d ws → SW (n + 1) d ws
  | 0, d, ws, h => sw_mono (fun _ _ z => z.elim) h
  | n + 1, d, ws, h => sw_mono (fun ds ws z => lw_mono (Nat.le_refl _) (fun _ _ z => sw_up n z) z) h
end Lw

set_option maxRecDepth 100000
set_option linter.unusedVariables false
namespace Lw
open PySem PySem.Spec PyProof.Rows L2 VG
/-! ### the program's words -/
abbrev tVs (ws : List Str) : List V := ws.map V.str
theorem tVs_app (a b : List Str) : tVs a ++ tVs b = tVs (a ++ b) := List.map_append.symm
section
variable {P : Program} {w : World} {K : PySem.W.Frag} {mg : Str → Option Value} {base : Heap}
theorem num_isi {H : Hp} {x : V} {d : PyData} (hd : Dp K H x d) (ok : okR d = true) : ∃ t, TyX K H x t ∧ PySem.W.kitOne K t (.type "str") = some false := by
  unfold okR at ok
  cases e : whole d with
  | true =>
    obtain ⟨i, rfl⟩ := whole_int e
    cases hd
    exact ⟨_, .base (.int i), kit_ty (by decide +kernel)⟩
  | false =>
    rw [e] at ok
    obtain ⟨t, b, rfl, _⟩ := isRat_form ok
    obtain ⟨a, xs, rfl, hs, hds⟩ := dp_tup hd
    exact ⟨_, tyx_tup hs, kit_ty (by decide +kernel)⟩
def spItems (K : PySem.W.Frag) : Sp := fun vs H Q _ => ∃ (a : Addr) (xs : List V) (ds : List PyData), vs = [.ref a] ∧ SqL K H a xs ∧ DpAll K H xs ds ∧ (∀ e ∈ ds, Atom e) ∧ ds.length ≤ 10 ∧
  ∀ (D : Addr) (H' : Hp), H D = none → Same H H' → H' D = some (.lst (tVs (ds.map txtD))) → Q (.ref D) H'
theorem scItems : FnScope ["items", "item"] ["items"] (defScope s__item_words) := ⟨rfl, rfl, rfl, by decide +kernel, rfl, by decide +kernel, by decide +kernel⟩
theorem ok_items {f fT : Addr} {fd fdT : FuncData} (F : Fun K "_item_words" "_item_words" s__item_words f fd) (ti : mg "isinstance" = none) (ts : mg "str" = none) (GT : FnOk P w K mg base CX0 4 fT fdT ["value"] (spText K)) (mT : mg "ratio_text" = some (.ref fT)) (kT : PySem.W.keepIn K (.ref fT) = true) (bT : Binds K fdT ["value"] []) :
    FnOk P w K mg base CX0 5 f fd ["items"] (spItems K) := by
  refine F.ok scItems (fun vs H Q E h => ?_) (fun cdv A outer s H vs Q E hr h => ?_)
  · obtain ⟨a, xs, ds, rfl, _⟩ := h
    rfl
  · obtain ⟨a, xs, ds, rfl, hx, hd, ha, hl, k⟩ := h
    have nd := scItems.nd
    refine ⟨_, pss_one (ps_ret (pe_lc (own := [("item", 1)]) (g := gName 1) (tt := tYes) rfl nd (pi_list (pv 0)) (blkOk_by (own := [("item", 1)]) (N := ["items", "item"]) (sc := defScope s__item_words) (by decide +kernel)) (fun _ _ _ _ _ => pg_name (i := 1) nd rfl (Or.inl rfl)) (fun _ _ _ _ _ => pts_nil)
      (fun _ _ _ _ _ => pe_ifExp (pt_val (pe_callB (show CallR _ (.builtin "isinstance") (rIsi K) from call_isi) (by rfl) ti (by decide +kernel) (pa_cons (pv 1) (pa_cons (pe_bltn (v := .ty "str") (by rfl) ts (by decide +kernel) rfl) pa_nil)))) (pv 1) (pe_call GT hr (by rfl) mT kT bT .nil pass0 (pa_cons (pv 1) pa_nil))))), ?_⟩
    refine ⟨_, rfl, a, rfl, ⟨_, hx⟩, fun D hD => ?_⟩
    have mD := same_upd (o := .lst []) hD
    have lx := DpAll.len hd
    refine lc_list (K := K) (a := a) (xs := xs) (fun i G => Same H G ∧ G D = some (.lst (tVs ((ds.take i).map txtD)))) ⟨mD, upd_same⟩ (fun i G _ c => Same.seq c.1 hx) (fun i v G hv c => ?_) (fun G c => ?_)
    · obtain ⟨sm, hG⟩ := c
      obtain ⟨d, hdi, hvd⟩ := DpAll.at' hd hv
      have hvd := Dp.same sm _ _ hvd
      have at_ := ha d (List.mem_of_getElem? hdi)
      have et : ds.take (i + 1) = ds.take i ++ [d] := by
        rw [List.take_add_one, hdi]
        rfl
      have fin : ∀ {G' : Hp}, Same G G' → ∃ acc, G' D = some (.lst acc) ∧ acc.length < sizeLine ∧ Same H (upd G' D (.lst (acc ++ [.str (txtD d)]))) ∧ upd G' D (.lst (acc ++ [.str (txtD d)])) D = some (.lst (tVs ((ds.take (i + 1)).map txtD))) := fun {G'} e => by
        refine ⟨_, e _ _ hG, ?_, fun b o hb => ?_, ?_⟩
        · rw [List.length_map, List.length_map, List.length_take]
          exact Nat.lt_of_le_of_lt (Nat.min_le_right _ _) (Nat.lt_of_le_of_lt hl (by decide))
        · rw [upd_ne (ne_of_none hb hD)]
          exact e _ _ (sm _ _ hb)
        · rw [upd_same, et, List.map_append]
          exact congrArg (fun z => some (HO.lst z)) (tVs_app ((ds.take i).map txtD) [txtD d])
      refine ⟨rfl, ?_⟩
      by_cases z : ∃ z, d = .str z
      · obtain ⟨z, rfl⟩ := z
        cases hvd
        exact ⟨_, rfl, _, _, _, _, true, rfl, .ty "str", .base (.str z), kit_ty (by decide +kernel), _, rfl, iteT ⟨_, rfl, fin fun _ _ z => z⟩⟩
      · have z : ∀ y, d ≠ .str y := fun y e => z ⟨y, e⟩
        obtain ⟨o1, o2, o3⟩ := atom_len at_ z
        obtain ⟨t, t1, t2⟩ := num_isi hvd o1
        refine ⟨_, rfl, _, _, _, _, false, rfl, .ty "str", t1, t2, _, rfl, iteF ⟨_, rfl, v, d, rfl, hvd, o1, o2, o3, fun G' e => ?_⟩⟩
        have := fin e
        rw [txt_num o1] at this
        exact this
    · obtain ⟨sm, hG⟩ := c
      rw [lx, List.take_length] at hG
      exact k D G hD sm hG
/-- the words of steps in brackets -/
def spBr (K : PySem.W.Frag) (R : List PyData → List Str → Prop) : Sp := fun vs H Q _ => ∃ (x : V) (ds : List PyData) (ws : List Str), vs = [x] ∧ Dp K H x (.tuple ds) ∧ R ds ws ∧
  ∀ (D : Addr) (H' : Hp), H D = none → Same H H' → H' D = some (.lst (tVs (("(" : Str) :: (ws ++ [(")" : Str)])))) → Q (.ref D) H'
def spWs (K : PySem.W.Frag) (R : List PyData → List Str → Prop) : Sp := fun vs H Q _ => ∃ (x : V) (ds : List PyData) (ws : List Str), vs = [x] ∧ Dp K H x (.tuple ds) ∧ R ds ws ∧
  ∀ (D : Addr) (H' : Hp), H D = none → Same H H' → H' D = some (.lst (tVs ws)) → Q (.ref D) H'
def spSt (K : PySem.W.Frag) (R : PyData → List Str → Prop) : Sp := fun vs H Q _ => ∃ (x : V) (d : PyData) (ws : List Str), vs = [x] ∧ Dp K H x d ∧ R d ws ∧
  ∀ (D : Addr) (H' : Hp), H D = none → Same H H' → H' D = some (.lst (tVs ws)) → Q (.ref D) H'
/-- a promise of nothing -/
theorem ok_never {k : Nat} {f : Addr} {fd : FuncData} {ps : List Str} : FnOk P w K mg base CX0 k f fd ps (fun _ _ _ _ => False) := ⟨fun _ _ _ _ h => h.elim, fun _ _ _ _ _ _ _ _ _ _ _ _ _ h => h.elim⟩
theorem line_of {n : Nat} (h : n ≤ 100000) : n ≤ sizeLine := Nat.le_trans h (by decide)
theorem scBrack : FnScope ["steps"] ["steps"] (defScope s__bracketed) := ⟨rfl, rfl, rfl, by decide +kernel, rfl, by decide +kernel, by decide +kernel⟩
theorem ok_brack {R : List PyData → List Str → Prop} {j : Nat} {f fW : Addr} {fd fdW : FuncData} (hR : ∀ ds ws, R ds ws → ws.length ≤ 5000) (F : Fun K "_bracketed" "_bracketed" s__bracketed f fd) (GW : FnOk P w K mg base CX0 j fW fdW ["steps"] (spWs K R)) (mW : mg "_words_of" = some (.ref fW)) (kW : PySem.W.keepIn K (.ref fW) = true) (bW : Binds K fdW ["steps"] []) :
    FnOk P w K mg base CX0 (j + 1) f fd ["steps"] (spBr K R) := by
  refine F.ok scBrack (fun vs H Q E h => ?_) (fun cdv A outer s H vs Q E hr h => ?_)
  · obtain ⟨x, ds, ws, rfl, _⟩ := h
    rfl
  · obtain ⟨x, ds, ws, rfl, hx, r, k⟩ := h
    refine ⟨_, pss_one (ps_ret (pe_lst (pa_cons pe_str (StX.pa_star (pe_call GW hr (by rfl) mW kW bW .nil pass0 (pa_cons (pv 0) pa_nil)) (pa_cons pe_str pa_nil))))), ?_⟩
    refine ⟨_, rfl, x, ds, ws, rfl, hx, r, fun D G hD sm hG => ⟨D, _, rfl, .inr (SqL.of hG), ?_, fun T hT => ?_⟩⟩
    · have := hR _ _ r
      refine line_of ?_
      simp only [List.length_cons, List.length_append, List.length_map, List.length_nil]
      omega
    · refine k T _ (sm.free hT) (sm.trans (same_upd hT)) ?_
      rw [upd_same]
      refine congrArg (fun z => some (HO.lst z)) ?_
      simp [tVs]
end
end Lw

set_option maxRecDepth 100000
set_option linter.unusedVariables false
namespace Lw
open PySem PySem.Spec PyProof.Rows L2 VG
section
variable {P : Program} {w : World} {K : PySem.W.Frag} {mg : Str → Option Value} {base : Heap}
abbrev NSt : List Str := ["step", "word", "items", "asked", "first", "second", "many", "inner"]
theorem scStep : FnScope NSt ["step"] (defScope s__step_words) := ⟨rfl, rfl, rfl, by decide +kernel, rfl, by decide +kernel, by decide +kernel⟩
theorem str_cmp {a b : Str} : decide (V.str a = V.str b) = decide (a = b) := by
  by_cases z : a = b
  · rw [z, decide_eq_true rfl, decide_eq_true rfl]
  · rw [decide_eq_false z, decide_eq_false fun y => z (V.str.inj y)]
theorem split4 {xs : List V} {H : Hp} {as : List PyData} {e1 e2 : PyData} (hl : as.length = 4) (h : DpAll K H xs (as ++ [e1, e2])) : ∃ ys v1 v2, xs = ys ++ [v1, v2] ∧ ys.length = 4 ∧ DpAll K H ys as ∧ Dp K H v1 e1 ∧ Dp K H v2 e2 := by
  match as, hl with
  | [a, b, c, d], _ =>
    match xs, h with
    | _, .cons h1 (.cons h2 (.cons h3 (.cons h4 (.cons h5 (.cons h6 .nil))))) => exact ⟨[_, _, _, _], _, _, rfl, rfl, .cons h1 (.cons h2 (.cons h3 (.cons h4 .nil))), h5, h6⟩
theorem dp_word {xs : List V} {H : Hp} {u : Str} {ds : List PyData} (h : DpAll K H xs (.str u :: ds)) : ∃ ys, xs = .str u :: ys ∧ DpAll K H ys ds := by
  cases h with
  | cons h t =>
    cases h
    exact ⟨_, rfl, t⟩
theorem ok_step {R : List PyData → List Str → Prop} {j : Nat} {f fI fB : Addr} {fd fdI fdB : FuncData} (hj : 5 ≤ j) (hR : ∀ ds ws, R ds ws → ws.length ≤ 5000) (F : Fun K "_step_words" "_step_words" s__step_words f fd)
    (GI : FnOk P w K mg base CX0 5 fI fdI ["items"] (spItems K)) (mI : mg "_item_words" = some (.ref fI)) (kI : PySem.W.keepIn K (.ref fI) = true) (bI : Binds K fdI ["items"] [])
    (GB : FnOk P w K mg base CX0 j fB fdB ["steps"] (spBr K R)) (mB : mg "_bracketed" = some (.ref fB)) (kB : PySem.W.keepIn K (.ref fB) = true) (bB : Binds K fdB ["steps"] []) :
    FnOk P w K mg base CX0 (j + 1) f fd ["step"] (spSt K (StW R)) := by
  refine F.ok scStep (fun vs H Q E h => ?_) (fun cdv A outer s H vs Q E hr h => ?_)
  · obtain ⟨x, d, ws, rfl, _⟩ := h
    rfl
  · obtain ⟨x, d, ws, rfl, hx, hW, k⟩ := h
    have nd := scStep.nd
    have hr5 : Room 5 _ := hr.mono hj
    refine ⟨_, C8.pss_cut (ps_asg (pv 0) (pg_star (n := 2) (i := 1) (by rfl) (pgs_cons (pg_name (i := 1) nd rfl (Or.inl rfl)) (pgs_star (pg_name (i := 2) nd rfl (Or.inl rfl)) pgs_nil))))
      (pss_cons (ps_if (pt_cmpR op_eq (pv 1) pe_str (nomark _))
        (C8.pss_cut (ps_asg (pv 2) (pg_star (n := 3) (i := 0) (by rfl) (pgs_star (pg_name (i := 3) nd rfl (Or.inl rfl)) (pgs_cons (pg_name (i := 4) nd rfl (Or.inl rfl)) (pgs_cons (pg_name (i := 5) nd rfl (Or.inl rfl)) pgs_nil)))))
          (pss_one (ps_ret (pe_lst (pa_cons (pv 1) (StX.pa_star (pe_call GI hr5 (by rfl) mI kI bI .nil pass0 (pa_cons (pv 3) pa_nil)) (StX.pa_star (pe_call GB hr (by rfl) mB kB bB .nil pass0 (pa_cons (pv 4) pa_nil)) (pa_cons pe_str (StX.pa_star (pe_call GB hr (by rfl) mB kB bB .nil pass0 (pa_cons (pv 5) pa_nil)) pa_nil)))))))))
        pss_nil)
      (pss_cons (ps_if (pt_cmpR op_eq (pv 1) pe_str (nomark _))
        (pss_cons (ps_asg (pv 2) (pg_lst (by rfl) (pgs_cons (pg_name (i := 6) nd rfl (Or.inl rfl)) (pgs_cons (pg_name (i := 7) nd rfl (Or.inl rfl)) pgs_nil))))
          (pss_one (ps_ret (pe_lst (pa_cons (pv 1) (StX.pa_star (pe_call GI hr5 (by rfl) mI kI bI .nil pass0 (pa_cons (pe_lst (pa_cons (pv 6) pa_nil)) pa_nil)) (StX.pa_star (pe_call GB hr (by rfl) mB kB bB .nil pass0 (pa_cons (pv 7) pa_nil)) pa_nil)))))))
        pss_nil)
      (pss_one (ps_ret (pe_lst (pa_cons (pv 1) (StX.pa_star (pe_call GI hr5 (by rfl) mI kI bI .nil pass0 (pa_cons (pv 2) pa_nil)) pa_nil))))))), ?_⟩
    have hd : ∃ u items, d = .tuple (.str u :: items) := by
      rcases hW with ⟨u, items, e, _⟩ | ⟨as, d1, d2, w1, w2, _, e, _⟩ | ⟨n, d1, w1, e, _⟩ <;> exact ⟨_, _, e⟩
    obtain ⟨u, items, rfl⟩ := hd
    obtain ⟨a, xs, rfl, hT, hds⟩ := dp_tup hx
    obtain ⟨ys, rfl, hys⟩ := dp_word hds
    · refine ⟨fun σ G => ∃ D, σ = [some (.ref a), some (.str u), some (.ref D), none, none, none, none, none] ∧ H D = none ∧ Same H G ∧ G D = some (.lst ys), ?_, ?_⟩
      · refine ⟨_, rfl, a, _, rfl, .inl hT, by decide, by simp, fun D hD => ?_⟩
        have e1 : (V.str u :: ys).take 1 ++ [V.ref D] ++ ((V.str u :: ys).drop 1).drop ((V.str u :: ys).length + 1 - 2) = [V.str u, .ref D] := by
          have : (V.str u :: ys).length + 1 - 2 = ys.length := by simp
          rw [this]
          simp
        have e2 : ((V.str u :: ys).drop 1).take ((V.str u :: ys).length + 1 - 2) = ys := by
          have : (V.str u :: ys).length + 1 - 2 = ys.length := by simp
          rw [this]
          simp
        rw [e1, e2]
        exact ⟨_, _, rfl, _, _, rfl, rfl, D, rfl, hD, same_upd hD, upd_same⟩
      · rintro σ G ⟨D, rfl, hD, sm, hG⟩
        have hysG : DpAll K G ys items := DpAll.same sm _ _ hys
        -- the end of each: the new list of the words
        have fin : ∀ {G' : Hp} {vs' : List V}, Same G G' → vs' = tVs ws → vs'.length ≤ 100000 → vs'.length ≤ sizeLine ∧ ∀ p, G' p = none → Q (.ref p) (upd G' p (.lst vs')) := fun {G' vs'} e ev l => by
          refine ⟨line_of l, fun p hp => ?_⟩
          have e' := sm.trans e
          refine k p _ (e'.free hp) (e'.trans (same_upd hp)) ?_
          rw [upd_same, ev]
        refine ⟨_, rfl, rfl, _, rfl, ?_⟩
        rw [str_cmp]
        rcases hW with ⟨u', items', e, rfl, hu, n1, n2, hl, ha⟩ | ⟨as, d1, d2, w1, w2, hl, e, ha, r1, r2, rfl⟩ | ⟨n, d1, w1, e, k0, k9, r1, rfl⟩
        · obtain ⟨e1, e2⟩ := List.cons.inj (PyData.tuple.inj e)
          cases e1
          subst e2
          rw [decide_eq_false n1]
          refine iteF ⟨_, rfl, rfl, _, rfl, ?_⟩
          rw [str_cmp, decide_eq_false n2]
          refine iteF ⟨_, rfl, _, rfl, D, ys, items, rfl, SqL.of hG, hysG, ha, by omega, fun D2 G2 hD2 s2 hG2 => ⟨D2, _, rfl, .inr (SqL.of hG2), ?_⟩⟩
          refine fin s2 (by simp [tVs]) ?_
          simp only [List.length_cons, List.length_append, List.length_map, List.length_nil]
          omega
        · obtain ⟨e1, e2⟩ := List.cons.inj (PyData.tuple.inj e)
          cases e1
          subst e2
          rw [decide_eq_true rfl]
          obtain ⟨zs, v1, v2, rfl, lz, hzs, hv1, hv2⟩ := split4 hl hysG
          refine iteT ?_
          refine ⟨fun σ G1 => ∃ D1, σ = [some (.ref a), some (.str "if"), some (.ref D), some (.ref D1), some v1, some v2, none, none] ∧ Same G G1 ∧ G1 D1 = some (.lst zs), ?_, ?_⟩
          · refine ⟨_, rfl, D, _, rfl, .inr (SqL.of hG), by decide, by simp, fun D1 hD1 => ?_⟩
            have e0 : (zs ++ [v1, v2]).length + 1 - 3 = zs.length := by simp
            have e1 : (zs ++ [v1, v2]).take 0 ++ [V.ref D1] ++ ((zs ++ [v1, v2]).drop 0).drop ((zs ++ [v1, v2]).length + 1 - 3) = [V.ref D1, v1, v2] := by
              rw [e0]
              simp
            have e2 : ((zs ++ [v1, v2]).drop 0).take ((zs ++ [v1, v2]).length + 1 - 3) = zs := by
              rw [e0]
              simp
            rw [e1, e2]
            exact ⟨_, _, rfl, _, _, rfl, _, _, rfl, rfl, D1, rfl, same_upd hD1, upd_same⟩
          · rintro σ G1 ⟨D1, rfl, s1, hG1⟩
            have l1 := hR _ _ r1
            have l2 := hR _ _ r2
            refine ⟨_, rfl, _, rfl, D1, zs, as, rfl, SqL.of hG1, DpAll.same s1 _ _ hzs, ha, by omega, fun D2 G2 hD2 s2 hG2 => ⟨D2, _, rfl, .inr (SqL.of hG2), ?_⟩⟩
            refine ⟨_, rfl, v1, d1, w1, rfl, Dp.same (s1.trans s2) _ _ hv1, r1, fun D3 G3 hD3 s3 hG3 => ⟨D3, _, rfl, .inr (SqL.of hG3), ?_⟩⟩
            refine ⟨_, rfl, v2, d2, w2, rfl, Dp.same ((s1.trans s2).trans s3) _ _ hv2, r2, fun D4 G4 hD4 s4 hG4 => ⟨D4, _, rfl, .inr (SqL.of hG4), ?_⟩⟩
            refine fin (((s1.trans s2).trans s3).trans s4) (by simp [tVs]) ?_
            simp only [List.length_cons, List.length_append, List.length_map, List.length_nil]
            omega
        · obtain ⟨e1, e2⟩ := List.cons.inj (PyData.tuple.inj e)
          cases e1
          subst e2
          rw [decide_eq_false (by decide +kernel)]
          refine iteF ⟨_, rfl, rfl, _, rfl, ?_⟩
          rw [str_cmp, decide_eq_true rfl]
          obtain ⟨v1, v2, rfl, hv1, hv2⟩ := dpAll2 hysG
          cases hv1
          have l1 := hR _ _ r1
          refine iteT ⟨_, rfl, D, _, rfl, SqL.of hG, rfl, _, _, rfl, _, _, rfl, rfl, _, rfl, _, rfl, (show 1 ≤ sizeLine by decide), fun D1 hD1 => ?_⟩
          have s1 := same_upd (o := .lst [.int n]) hD1
          refine ⟨D1, _, [.int n], rfl, SqL.of upd_same, .cons (.int n) .nil, fun e he => by rw [List.mem_singleton.mp he]; exact atom_int k0 (by omega), (show 1 ≤ 10 by decide), fun D2 G2 hD2 s2 hG2 => ⟨D2, _, rfl, .inr (SqL.of hG2), ?_⟩⟩
          refine ⟨_, rfl, v2, d1, w1, rfl, Dp.same (s1.trans s2) _ _ hv2, r1, fun D3 G3 hD3 s3 hG3 => ⟨D3, _, rfl, .inr (SqL.of hG3), ?_⟩⟩
          refine fin ((s1.trans s2).trans s3) (by simp [tVs]) ?_
          simp only [List.length_cons, List.length_append, List.length_map, List.length_nil]
          omega
theorem scWs : FnScope ["steps", "words", "step"] ["steps"] (defScope s__words_of) := ⟨rfl, rfl, rfl, by decide +kernel, rfl, by decide +kernel, by decide +kernel⟩
theorem paired_at2 {α β : Type} {R : α → β → Prop} : ∀ {xs : List α} {ys : List β} {i : Nat} {x : α}, Paired R xs ys → xs[i]? = some x → ∃ y, ys[i]? = some y ∧ R x y
  | _, _, 0, _, .cons h _, e => by
    cases e
    exact ⟨_, rfl, h⟩
  | _, _, i + 1, _, .cons _ t, e => paired_at2 (i := i) t e
theorem ok_words {R : PyData → List Str → Prop} {m j : Nat} {f fS : Addr} {fd fdS : FuncData} (hm : m ≤ 10) (hR : ∀ d ws, R d ws → Sz 1000 ws) (F : Fun K "_words_of" "_words_of" s__words_of f fd)
    (GS : FnOk P w K mg base CX0 j fS fdS ["step"] (spSt K R)) (mS : mg "_step_words" = some (.ref fS)) (kS : PySem.W.keepIn K (.ref fS) = true) (bS : Binds K fdS ["step"] []) :
    FnOk P w K mg base CX0 (j + 1) f fd ["steps"] (spWs K (LW m R)) := by
  refine F.ok scWs (fun vs H Q E h => ?_) (fun cdv A outer s H vs Q E hr h => ?_)
  · obtain ⟨x, ds, ws, rfl, _⟩ := h
    rfl
  · obtain ⟨x, ds, ws, rfl, hx, ⟨hl, wss, pa, rfl⟩, k⟩ := h
    have nd := scWs.nd
    refine ⟨_, pss_cons (ps_set (i := 1) nd rfl (Or.inl rfl) (pe_lst pa_nil))
      (pss_cons (ps_for PassesOwn.never rfl (pi_tup (pv 0)) (pg_name (i := 2) nd rfl (Or.inl rfl))
        (C8.pss_cut (ps_if (pt_truth (pv 1) fun _ => rfl) (pss_one (ps_expr (pe_bm PySem.F.plainAttrs_list PySem.F.slot_list_append PySem.F.type_list_append mt_append (pv 1) (pa_cons pe_str pa_nil)))) pss_nil)
        (pss_one (ps_expr (pe_bm PySem.F.plainAttrs_list PySem.F.slot_list_extend PySem.F.type_list_extend mt_extend (pv 1) (pa_cons (pe_call GS hr (by rfl) mS kS bS .nil pass0 (pa_cons (pv 2) pa_nil)) pa_nil))))))
      (pss_one (ps_ret (pv 1)))), ?_⟩
    obtain ⟨a, xs, rfl, hT, hds⟩ := dp_tup hx
    have lx := DpAll.len hds
    have lw := paired_len2 pa
    refine ⟨by decide, fun D hD => ?_⟩
    have mD := same_upd (o := .lst []) hD
    have stay : ∀ {G : Hp} {o : HO}, Same H G → Same H (upd G D o) := fun {G o} e b u hb => by
      rw [upd_ne (ne_of_none hb hD)]
      exact e _ _ hb
    have szs : ∀ i, i ≤ wss.length → (sepJ (wss.take i)).length ≤ 20000 := fun i hi => by
      have h := (sep_size (c := 1000) (wss := wss.take i) fun ws hw => by
        obtain ⟨d, _, hr⟩ := paired_mem2 pa (List.mem_of_mem_take hw)
        exact hR d ws hr).1
      rw [List.length_take] at h
      have : min i wss.length * (1000 + 1) ≤ 10 * (1000 + 1) := Nat.mul_le_mul_right _ (by omega)
      omega
    refine ⟨_, rfl, a, rfl, ⟨_, Same.tup mD hT⟩, for_tup (K := K) (a := a) (xs := xs) (fun i σ G => ∃ o, σ = [some (.ref a), some (.ref D), o] ∧ Same H G ∧ G D = some (.lst (tVs (sepJ (wss.take i))))) ⟨_, rfl, mD, upd_same⟩ (fun i σ G _ ⟨_, _, e, _⟩ => Same.tup e hT) ?_ ?_⟩
    · rintro i v σ G hv ⟨o, rfl, sm, hG⟩
      obtain ⟨d, hdi, hvd⟩ := DpAll.at' hds hv
      obtain ⟨wd, hwi, hrd⟩ := paired_at2 pa hdi
      have li : i < wss.length := (List.getElem?_eq_some_iff.mp hwi).1
      have et : wss.take (i + 1) = wss.take i ++ [wd] := by
        rw [List.take_add_one, hwi]
        rfl
      have lacc := szs i (by omega)
      have lwd := (hR _ _ hrd).1
      refine ⟨fun σ G1 => σ = [some (.ref a), some (.ref D), some v] ∧ Same H G1 ∧ G1 D = some (.lst (tVs (sepJ (wss.take i) ++ (if sepJ (wss.take i) = [] then [] else [(";" : Str)])))), ?_, ?_⟩
      · refine ⟨_, rfl, _, .inl ⟨_, SqL.of hG, rfl⟩, ?_⟩
        by_cases z : sepJ (wss.take i) = []
        · rw [if_pos z, z]
          rw [z] at hG
          exact iteF ⟨rfl, sm, hG⟩
        · have : (!(tVs (sepJ (wss.take i))).isEmpty) = true := by
            cases q : sepJ (wss.take i) with
            | nil => exact absurd q z
            | cons _ _ => rfl
          rw [if_neg z, this]
          refine iteT ⟨_, rfl, .inl ⟨rfl, _, SqL.of hG⟩, D, _, _, rfl, rfl, hG, ?_, rfl, stay sm, ?_⟩
          · rw [List.length_map]
            exact Nat.lt_of_le_of_lt lacc (by decide)
          · rw [upd_same, ← tVs_app]
            rfl
      · rintro σ G1 ⟨rfl, s1, hG1⟩
        refine ⟨_, rfl, .inl ⟨rfl, _, SqL.of hG1⟩, _, rfl, v, d, wd, rfl, Dp.same s1 _ _ hvd, hrd, fun D2 G2 hD2 s2 hG2 => ?_⟩
        refine ⟨D, D2, _, _, rfl, rfl, s2 _ _ hG1, hG2, line_of ?_, _, rfl, stay (s1.trans s2), ?_⟩
        · have : (if sepJ (wss.take i) = [] then [] else [(";" : Str)]).length ≤ 1 := by split <;> simp
          rw [List.length_map, List.length_map, List.length_append]
          omega
        · rw [upd_same, et, sepJ_snoc, ← tVs_app _ wd]
    · rintro σ G ⟨o, rfl, sm, hG⟩
      rw [lx, lw, List.take_length] at hG
      exact ⟨_, rfl, k D G hD sm hG⟩
end
end Lw

set_option maxRecDepth 100000
set_option linter.unusedVariables false
namespace Lw
open PySem PySem.Spec PyProof.Rows L2 VG
/-! ### all levels; text_of -/
section
variable {P : Program} {w : World} {K : PySem.W.Frag} {mg : Str → Option Value} {base : Heap}
/-- the defs of the words, as the program has them -/
structure PW (K : PySem.W.Frag) (mg : Str → Option Value) (fI fB fS fW : Addr) (fdI fdB fdS fdW : FuncData) : Prop where
  uS : Fun K "_step_words" "_step_words" s__step_words fS fdS
  uB : Fun K "_bracketed" "_bracketed" s__bracketed fB fdB
  uW : Fun K "_words_of" "_words_of" s__words_of fW fdW
  mI : mg "_item_words" = some (.ref fI)
  kI : PySem.W.keepIn K (.ref fI) = true
  bI : Binds K fdI ["items"] []
  mB : mg "_bracketed" = some (.ref fB)
  kB : PySem.W.keepIn K (.ref fB) = true
  bB : Binds K fdB ["steps"] []
  mS : mg "_step_words" = some (.ref fS)
  kS : PySem.W.keepIn K (.ref fS) = true
  bS : Binds K fdS ["step"] []
  mW : mg "_words_of" = some (.ref fW)
  kW : PySem.W.keepIn K (.ref fW) = true
  bW : Binds K fdW ["steps"] []
variable {fI fB fS fW : Addr} {fdI fdB fdS fdW : FuncData}
theorem ok_st0 (p : PW K mg fI fB fS fW fdI fdB fdS fdW) (GI : FnOk P w K mg base CX0 5 fI fdI ["items"] (spItems K)) : FnOk P w K mg base CX0 6 fS fdS ["step"] (spSt K (SW 0)) :=
  ok_step (R := fun _ _ => False) (j := 5) (Nat.le_refl _) (fun _ _ z => z.elim) p.uS GI p.mI p.kI p.bI (ok_never.imp fun vs H Q E h => by
    obtain ⟨_, _, _, _, _, z, _⟩ := h
    exact z) p.mB p.kB p.bB
theorem ok_wsN (p : PW K mg fI fB fS fW fdI fdB fdS fdW) {n m j : Nat} (hn : szN n ≤ 1000) (hm : m ≤ 10) (GS : FnOk P w K mg base CX0 j fS fdS ["step"] (spSt K (SW n))) : FnOk P w K mg base CX0 (j + 1) fW fdW ["steps"] (spWs K (LW m (SW n))) :=
  ok_words hm (fun d ws z => by
    obtain ⟨l, a⟩ := sw_size n z
    exact ⟨Nat.le_trans l hn, a⟩) p.uW GS p.mS p.kS p.bS
theorem ok_stN (p : PW K mg fI fB fS fW fdI fdB fdS fdW) (GI : FnOk P w K mg base CX0 5 fI fdI ["items"] (spItems K)) {n j : Nat} (hj : 5 ≤ j) (hn : szN n ≤ 1000) (GS : FnOk P w K mg base CX0 j fS fdS ["step"] (spSt K (SW n))) : FnOk P w K mg base CX0 (j + 3) fS fdS ["step"] (spSt K (SW (n + 1))) := by
  have hR : ∀ ds ws, LW 2 (SW n) ds ws → ws.length ≤ 5000 := fun ds ws z => by
    have := (lw_size (fun d ws z => sw_size n z) z).1
    omega
  exact ok_step (R := LW 2 (SW n)) (j := j + 2) (by omega) hR p.uS GI p.mI p.kI p.bI (ok_brack hR p.uB (ok_wsN p hn (by decide) GS) p.mW p.kW p.bW) p.mB p.kB p.bB
theorem ok_ws2 (p : PW K mg fI fB fS fW fdI fdB fdS fdW) (GI : FnOk P w K mg base CX0 5 fI fdI ["items"] (spItems K)) : FnOk P w K mg base CX0 13 fW fdW ["steps"] (spWs K (LW 10 (SW 2))) :=
  ok_wsN p (by decide) (by decide) (ok_stN p GI (by decide) (by decide) (ok_stN p GI (by decide) (by decide) (ok_st0 p GI)))
theorem sum_len {ws : List Str} (h : ∀ w ∈ ws, wdB w) : (ws.map (·.length)).sum ≤ 12 * ws.length := by
  induction ws with
  | nil => simp
  | cons a t ih =>
    have h1 := (h a List.mem_cons_self).1
    have h2 := ih fun w hw => h w (List.mem_cons_of_mem _ hw)
    simp only [List.map_cons, List.sum_cons, List.length_cons]
    omega
theorem lw2_size {ds : List PyData} {ws : List Str} (h : LW 10 (SW 2) ds ws) : Sz 2310 ws := lw_size (c := 230) (fun d ws z => sw_size 2 z) h
/-- the words with spaces between -/
def joined (ws : List Str) : Str := Txt.join " " ws
def spTextOf (K : PySem.W.Frag) : Sp := fun vs H Q _ => ∃ (x : V) (ds : List PyData) (ws : List Str), vs = [x] ∧ Dp K H x (.tuple ds) ∧ LW 10 (SW 2) ds ws ∧ ∀ H', Same H H' → Q (.str (joined ws)) H'
theorem scTextOf : FnScope ["steps"] ["steps"] (defScope s_text_of) := ⟨rfl, rfl, rfl, by decide +kernel, rfl, by decide +kernel, by decide +kernel⟩
theorem ok_textOf {f : Addr} {fd : FuncData} (F : Fun K "text_of" "text_of" s_text_of f fd) (GW : FnOk P w K mg base CX0 13 fW fdW ["steps"] (spWs K (LW 10 (SW 2)))) (mW : mg "_words_of" = some (.ref fW)) (kW : PySem.W.keepIn K (.ref fW) = true) (bW : Binds K fdW ["steps"] []) :
    FnOk P w K mg base CX0 14 f fd ["steps"] (spTextOf K) := by
  refine F.ok scTextOf (fun vs H Q E h => ?_) (fun cdv A outer s H vs Q E hr h => ?_)
  · obtain ⟨x, ds, ws, rfl, _⟩ := h
    rfl
  · obtain ⟨x, ds, ws, rfl, hx, hW, k⟩ := h
    refine ⟨_, pss_one (ps_ret (pe_join pe_str (pe_call GW hr (by rfl) mW kW bW .nil pass0 (pa_cons (pv 0) pa_nil)))), ?_⟩
    refine ⟨⟨_, rfl⟩, _, rfl, x, ds, ws, rfl, hx, hW, fun D G hD sm hG => ⟨_, D, ws, rfl, rfl, .inl (SqL.of hG), ?_, k G sm⟩⟩
    obtain ⟨l, a⟩ := lw2_size hW
    have := sum_len a
    show (ws.map (·.length)).sum + ws.length * 1 ≤ 16777216
    omega
end
end Lw

set_option maxRecDepth 100000
set_option linter.unusedVariables false
namespace Lw
open PySem PySem.Spec PyProof.Rows L2 VG
/-! ### the law's own words -/
theorem strs_shaped {ws : List Str} (h : ∀ w ∈ ws, wdB w) : SeqAt.shaped (.list (ws.map PyData.str)) = true := by
  have h1 : PyData.canLayAll0 (ws.map PyData.str) = true := by
    induction ws with
    | nil => rfl
    | cons a t ih =>
      show (PyData.canLay0 (.str a) && PyData.canLayAll0 (t.map PyData.str)) = true
      rw [ih fun w hw => h w (List.mem_cons_of_mem _ hw), show PyData.canLay0 (.str a) = true by simp only [PyData.canLay0]; exact (h a List.mem_cons_self).2]
      rfl
  have h2 : PyData.depthAll (ws.map PyData.str) ≤ 0 := by
    clear h h1
    induction ws with
    | nil => simp [PyData.depthAll]
    | cons a t ih => simp [PyData.depthAll, PyData.depth] at ih ⊢; exact ih
  show (PyData.canLay0 (.list (ws.map PyData.str)) && decide (PyData.depth (.list (ws.map PyData.str)) ≤ 64)) = true
  have e1 : PyData.canLay0 (.list (ws.map PyData.str)) = true := by simp only [PyData.canLay0]; exact h1
  have e2 : PyData.depth (.list (ws.map PyData.str)) ≤ 64 := by
    simp only [PyData.depth]
    omega
  rw [e1, decide_eq_true e2]
  rfl
theorem dp_strs {K : PySem.W.Frag} {H : Hp} : ∀ ws : List Str, DpAll K H (tVs ws) (ws.map PyData.str)
  | [] => .nil
  | a :: t => .cons (.str a) (dp_strs t)
theorem strs_eqv {ws : List Str} : PyData.eqv (.list (ws.map PyData.str)) (.list []) = decide (ws = []) := by
  cases ws with
  | nil => rw [decide_eq_true rfl]; exact eqv_refl _ rfl
  | cons a t => rw [decide_eq_false (by simp)]; exact eqv_lens (by simp)
section
variable {P : Program} {w : World} {K : PySem.W.Frag} {mg : Str → Option Value} {base : Heap}
abbrev NLw : List Str := ["_law_steps_here", "_law_found", "_law_step", "_law_one"]
theorem scLWs : FnScope NLw ["_law_steps_here"] (defScope s__law_words) := ⟨rfl, rfl, rfl, by decide +kernel, rfl, by decide +kernel, by decide +kernel⟩
/-- the text of each, as the law's def gives it -/
theorem textL_at {G : Hp} {v : V} {d : PyData} (hd : Dp K G v d) (ha : Atom d) : (∃ z, v = .str z ∧ txtD d = z) ∨ (okR d = true ∧ (ratD d).1.natAbs < 10 ^ 60 ∧ (ratD d).2.natAbs < 10 ^ 60 ∧ txtD d = Tx (textL (ratD d).1 (ratD d).2)) := by
  by_cases z : ∃ z, d = .str z
  · obtain ⟨z, rfl⟩ := z
    cases hd
    exact .inl ⟨z, rfl, rfl⟩
  · obtain ⟨o1, o2, o3⟩ := atom_len ha fun y e => z ⟨y, e⟩
    exact .inr ⟨o1, o2, o3, txt_num o1⟩
theorem lcw_fin {G0 G G' : Hp} {D : Addr} {i : Nat} {es : List PyData} {d : PyData} (hD : G0 D = none) (sm : Same G0 G) (hG : G D = some (.lst (tVs ((es.take i).map txtD)))) (hd : es[i]? = some d) (l : es.length ≤ 10) (e : Same G G') :
    ∃ acc, G' D = some (.lst acc) ∧ acc.length < sizeLine ∧ Same G0 (upd G' D (.lst (acc ++ [.str (txtD d)]))) ∧ upd G' D (.lst (acc ++ [.str (txtD d)])) D = some (.lst (tVs ((es.take (i + 1)).map txtD))) := by
  have et : es.take (i + 1) = es.take i ++ [d] := by
    rw [List.take_add_one, hd]
    rfl
  refine ⟨_, e _ _ hG, ?_, fun b o hb => ?_, ?_⟩
  · rw [List.length_map, List.length_map, List.length_take]
    exact Nat.lt_of_le_of_lt (Nat.min_le_right _ _) (Nat.lt_of_le_of_lt l (by decide))
  · rw [upd_ne (ne_of_none hb hD)]
    exact e _ _ (sm _ _ hb)
  · rw [upd_same, et, List.map_append]
    exact congrArg (fun z => some (HO.lst z)) (tVs_app ((es.take i).map txtD) [txtD d])
theorem ok_lws {R : List PyData → List Str → Prop} {m j : Nat} {f fX : Addr} {fd fdX : FuncData} (hj : 2 ≤ j) (hm : m ≤ 10) (hR : ∀ ds ws, R ds ws → Sz 490 ws) (T : Nm mg) (ts : mg "str" = none) (F : Fun K "_law_words" "_law_words" s__law_words f fd)
    (GX : FnOk P w K mg base CX0 2 fX fdX ["_law_value"] (spTextL K)) (mX : mg "_law_text" = some (.ref fX)) (kX : PySem.W.keepIn K (.ref fX) = true) (bX : Binds K fdX ["_law_value"] [])
    (GL : FnOk P w K mg base CX0 j f fd ["_law_steps_here"] (spWs K R)) (mL : mg "_law_words" = some (.ref f)) (kL : PySem.W.keepIn K (.ref f) = true) (bL : Binds K fd ["_law_steps_here"] []) :
    FnOk P w K mg base CX0 (j + 1) f fd ["_law_steps_here"] (spWs K (LW m (StW R))) := by
  have hS : ∀ d ws, StW R d ws → Sz 990 ws := fun d ws z => st_size hR z
  refine F.ok scLWs (fun vs H Q E h => ?_) (fun cdv A outer s H vs Q E hr h => ?_)
  · obtain ⟨x, ds, ws, rfl, _⟩ := h
    rfl
  · obtain ⟨x, ds, ws, rfl, hx, ⟨hl, wss, pa, rfl⟩, k⟩ := h
    have nd := scLWs.nd
    have hr2 : Room 2 _ := hr.mono hj
    refine ⟨_, pss_cons (ps_set (i := 1) nd rfl (by first | exact Or.inl rfl | exact Or.inr rfl) (pe_lst pa_nil))
        (pss_cons (ps_for PassesOwn.never rfl (pi_tup (pv 0)) (pg_name (i := 2) nd rfl (by first | exact Or.inl rfl | exact Or.inr rfl))
       (C8.pss_cut (ps_set (i := 1) nd rfl (by first | exact Or.inl rfl | exact Or.inr rfl) (pe_op op_cat (pv 1) (pe_ifExp (pt_cmpR (op_neD hr.units) (pv 1) (pe_lst pa_nil) (nomark _)) (pe_lst (pa_cons pe_str pa_nil)) (pe_lst pa_nil))))
        (pss_one (ps_if (pt_cmpR op_eq (pe_ix ix_tup (pv 2) pe_int fun _ _ => rfl) pe_str (nomark _))
       (pss_one (ps_set (i := 1) nd rfl (by first | exact Or.inl rfl | exact Or.inr rfl) (pe_op op_cat (pe_op op_cat (pe_op op_cat (pe_op op_cat (pe_op op_cat (pe_op op_cat (pv 1) (pe_lc (own := [("_law_one", 3)]) (g := gName 3) (tt := tYes) rfl nd (pi_tup (pe_slice sl_tup (pv 2) po_none (po_some pe_int))) (blkOk_by (own := [("_law_one", 3)]) (N := NLw) (sc := defScope s__law_words) (by decide +kernel)) (fun _ _ _ _ _ => pg_name (i := 3) nd rfl (by first | exact Or.inl rfl | exact Or.inr rfl)) (fun _ _ _ _ _ => pts_nil) (fun _ _ _ _ _ => pe_call GX hr2 (by rfl) mX kX bX .nil pass0 (pa_cons (pv 3) pa_nil)))) (pe_lst (pa_cons pe_str (pa_nil)))) (pe_call GL hr (by rfl) mL kL bL .nil pass0 (pa_cons (pe_ix ix_tup (pv 2) pe_int fun _ _ => rfl) pa_nil))) (pe_lst (pa_cons pe_str (pa_cons pe_str (pa_cons pe_str (pa_nil)))))) (pe_call GL hr (by rfl) mL kL bL .nil pass0 (pa_cons (pe_ix ix_tup (pv 2) pe_int fun _ _ => rfl) pa_nil))) (pe_lst (pa_cons pe_str (pa_nil))))))
       (pss_one (ps_if (pt_cmpR op_eq (pe_ix ix_tup (pv 2) pe_int fun _ _ => rfl) pe_str (nomark _))
       (pss_one (ps_set (i := 1) nd rfl (by first | exact Or.inl rfl | exact Or.inr rfl) (pe_op op_cat (pe_op op_cat (pe_op op_cat (pv 1) (pe_lst (pa_cons pe_str (pa_cons (pe_callTy call_str_int (by rfl) ts (by decide +kernel) (pa_cons (pe_ix ix_tup (pv 2) pe_int fun _ _ => rfl) pa_nil)) (pa_cons pe_str (pa_nil)))))) (pe_call GL hr (by rfl) mL kL bL .nil pass0 (pa_cons (pe_ix ix_tup (pv 2) pe_int fun _ _ => rfl) pa_nil))) (pe_lst (pa_cons pe_str (pa_nil))))))
       (pss_one (ps_set (i := 1) nd rfl (by first | exact Or.inl rfl | exact Or.inr rfl) (pe_op op_cat (pv 1) (pe_lc (own := [("_law_one", 3)]) (g := gName 3) (tt := tYes) rfl nd (pi_tup (pv 2)) (blkOk_by (own := [("_law_one", 3)]) (N := NLw) (sc := defScope s__law_words) (by decide +kernel)) (fun _ _ _ _ _ => pg_name (i := 3) nd rfl (by first | exact Or.inl rfl | exact Or.inr rfl)) (fun _ _ _ _ _ => pts_nil) (fun _ _ _ _ _ => pe_call GX hr2 (by rfl) mX kX bX .nil pass0 (pa_cons (pv 3) pa_nil))))))))))))
        (pss_one (ps_ret (pv 1)))), ?_⟩
    obtain ⟨a, xs, rfl, hT, hds⟩ := dp_tup hx
    have lx := DpAll.len hds
    have lw := paired_len2 pa
    refine ⟨by decide, fun D hD => ?_⟩
    have mD := same_upd (o := .lst []) hD
    have szs : ∀ i, i ≤ wss.length → Sz 10000 (sepJ (wss.take i)) := fun i hi => by
      obtain ⟨h, h2⟩ := sep_size (c := 990) (wss := wss.take i) fun ws hw => by
        obtain ⟨d, _, hr⟩ := paired_mem2 pa (List.mem_of_mem_take hw)
        exact hS d ws hr
      rw [List.length_take] at h
      have : min i wss.length * (990 + 1) ≤ 10 * (990 + 1) := Nat.mul_le_mul_right _ (by omega)
      exact ⟨by omega, h2⟩
    refine ⟨_, rfl, a, rfl, ⟨_, Same.tup mD hT⟩, for_tup (K := K) (a := a) (xs := xs) (fun i σ G => ∃ D o o3, σ = [some (.ref a), some (.ref D), o, o3] ∧ Same H G ∧ H D = none ∧ G D = some (.lst (tVs (sepJ (wss.take i))))) ⟨_, _, _, rfl, mD, hD, upd_same⟩ (fun i σ G _ ⟨_, _, _, _, e, _⟩ => Same.tup e hT) ?_ ?_⟩
    · rintro i v σ G hv ⟨D, o, o3, rfl, sm, hD, hG⟩
      obtain ⟨d, hdi, hvd⟩ := DpAll.at' hds hv
      obtain ⟨wd, hwi, hrd⟩ := paired_at2 pa hdi
      have li : i < wss.length := (List.getElem?_eq_some_iff.mp hwi).1
      have et : wss.take (i + 1) = wss.take i ++ [wd] := by
        rw [List.take_add_one, hwi]
        rfl
      obtain ⟨lacc, aacc⟩ := szs i (by omega)
      have lwd := (hS _ _ hrd).1
      have sz0 : (if sepJ (wss.take i) = [] then [] else [(";" : Str)]).length ≤ 1 := by split <;> simp
      refine ⟨fun σ G1 => ∃ D1, σ = [some (.ref a), some (.ref D1), some v, o3] ∧ Same H G1 ∧ H D1 = none ∧ G1 D1 = some (.lst (tVs (sepJ (wss.take i) ++ (if sepJ (wss.take i) = [] then [] else [(";" : Str)])))), ?_, ?_⟩
      · refine ⟨_, rfl, _, rfl, by decide, fun L hL => ?_⟩
        have sL := same_upd (o := .lst []) hL
        refine ⟨.list ((sepJ (wss.take i)).map PyData.str), .list [], .lst (SqL.of (sL _ _ hG)) (dp_strs _), .lst (SqL.of upd_same) .nil, strs_shaped aacc, strs_shaped (ws := []) (by simp), _, rfl, ?_⟩
        rw [strs_eqv]
        by_cases z : sepJ (wss.take i) = []
        · rw [if_pos z, decide_eq_true z]
          refine iteF ⟨by decide, fun L2 hL2 => ⟨D, L2, _, _, rfl, rfl, same_upd hL2 _ _ (sL _ _ hG), upd_same, ?_, fun p hp => ⟨p, rfl, ?_, ?_, ?_⟩⟩⟩
          · rw [List.length_map]
            exact line_of (show (sepJ (wss.take i)).length + 0 ≤ 100000 by omega)
          · exact ((sm.trans sL).trans (same_upd hL2)).trans (same_upd hp)
          · exact ((sm.trans sL).trans (same_upd hL2)).free hp
          · rw [upd_same, ← tVs_app]
            rfl
        · rw [if_neg z, decide_eq_false z]
          refine iteT ⟨(show 1 ≤ sizeLine by decide), fun L2 hL2 => ⟨D, L2, _, _, rfl, rfl, same_upd hL2 _ _ (sL _ _ hG), upd_same, ?_, fun p hp => ⟨p, rfl, ?_, ?_, ?_⟩⟩⟩
          · rw [List.length_map]
            exact line_of (show (sepJ (wss.take i)).length + 1 ≤ 100000 by omega)
          · exact ((sm.trans sL).trans (same_upd hL2)).trans (same_upd hp)
          · exact ((sm.trans sL).trans (same_upd hL2)).free hp
          · rw [upd_same, ← tVs_app]
            rfl
      · rintro σ G1 ⟨D1, rfl, s1, hD1, hG1⟩
        generalize hacc : sepJ (wss.take i) ++ (if sepJ (wss.take i) = [] then [] else [(";" : Str)]) = acc at hG1
        have lac : acc.length ≤ 10001 := by
          rw [← hacc, List.length_append]
          omega
        have hd : ∃ u items, d = .tuple (.str u :: items) := by
          rcases hrd with ⟨u, items, e, _⟩ | ⟨as, d1, d2, w1, w2, _, e, _⟩ | ⟨n, d1, w1, e, _⟩ <;> exact ⟨_, _, e⟩
        obtain ⟨u, items, rfl⟩ := hd
        obtain ⟨T, ys0, rfl, hT1, hys0⟩ := dp_tup (Dp.same s1 _ _ hvd)
        obtain ⟨ys, rfl, hys⟩ := dp_word hys0
        -- the end of each
        have fin : ∀ {G' : Hp} {p : Addr} {o3 : Option V} {vs' : List V}, Same G1 G' → G' p = none → vs' = tVs (acc ++ wd) → ∃ D o o3', [some (V.ref a), some (V.ref p), some (V.ref T), o3] = [some (.ref a), some (.ref D), o, o3'] ∧ Same H (upd G' p (.lst vs')) ∧ H D = none ∧ (upd G' p (.lst vs')) D = some (.lst (tVs (sepJ (wss.take (i + 1))))) := fun {G' p o3 vs'} e hp ev => by
          refine ⟨p, _, _, rfl, (s1.trans e).trans (same_upd hp), (s1.trans e).free hp, ?_⟩
          rw [upd_same, et, sepJ_snoc, hacc, ev]
        refine ⟨_, rfl, _, _, _, _, rfl, rfl, hT1, (show atI (V.str u :: ys) 0 = some (V.str u) from atI_nat (j := 0) rfl), rfl, _, rfl, ?_⟩
        rw [str_cmp]
        rcases hrd with ⟨u', items', e, rfl, hu, n1, n2, hl, ha⟩ | ⟨as, d1, d2, w1, w2, hl, e, ha, r1, r2, rfl⟩ | ⟨n, d1, w1, e, k0, k9, r1, rfl⟩
        · obtain ⟨e1, e2⟩ := List.cons.inj (PyData.tuple.inj e)
          cases e1
          subst e2
          rw [decide_eq_false n1]
          refine iteF ⟨_, rfl, _, _, _, _, rfl, rfl, hT1, (show atI (V.str u :: ys) 0 = some (V.str u) from atI_nat (j := 0) rfl), rfl, _, rfl, ?_⟩
          rw [str_cmp, decide_eq_false n2]
          refine iteF ⟨_, rfl, _, rfl, T, rfl, ⟨_, hT1⟩, fun D2 hD2 => ?_⟩
          have ha' : ∀ e ∈ PyData.str u :: items, Atom e := fun e he => by
            rcases List.mem_cons.mp he with rfl | he
            · exact atom_str hu
            · exact ha e he
          refine lc_tup (K := K) (a := T) (xs := V.str u :: ys) (fun j G2 => Same G1 G2 ∧ G2 D2 = some (.lst (tVs (((PyData.str u :: items).take j).map txtD)))) ⟨same_upd hD2, upd_same⟩ (fun j G2 _ c => Same.tup c.1 hT1) (fun j y G2 hy c => ?_) (fun G2 c => ?_)
          · obtain ⟨d', hd', hyd⟩ := DpAll.at' hys0 hy
            rcases textL_at (Dp.same c.1 _ _ hyd) (ha' d' (List.mem_of_getElem? hd')) with ⟨z, rfl, ez⟩ | ⟨o1, o2, o3, ez⟩
            · exact ⟨rfl, _, rfl, Or.inl ⟨z, rfl, by rw [← ez]; exact lcw_fin hD2 c.1 c.2 hd' (show items.length + 1 ≤ 10 by omega) fun _ _ z => z⟩⟩
            · exact ⟨rfl, _, rfl, Or.inr ⟨y, d', rfl, Dp.same c.1 _ _ hyd, o1, o2, o3, fun G' e => by rw [← ez]; exact lcw_fin hD2 c.1 c.2 hd' (show items.length + 1 ≤ 10 by omega) e⟩⟩
          · obtain ⟨s2, hG2⟩ := c
            rw [DpAll.len hys0, List.take_length] at hG2
            refine ⟨D1, D2, _, _, rfl, rfl, s2 _ _ hG1, hG2, ?_, fun p hp => fin s2 hp (by rw [tVs_app]; rfl)⟩
            rw [List.length_map, List.length_map, List.length_map]
            exact line_of (show acc.length + (items.length + 1) ≤ 100000 by omega)
        · obtain ⟨e1, e2⟩ := List.cons.inj (PyData.tuple.inj e)
          cases e1
          subst e2
          rw [decide_eq_true rfl]
          obtain ⟨zs, v1, v2, rfl, lz, hzs, hv1, hv2⟩ := split4 hl hys
          have l1 := (hR _ _ r1).1
          have l2 := (hR _ _ r2).1
          have hcut : cutV (V.str "if" :: (zs ++ [v1, v2])) none (some (5 : Int)) = V.str "if" :: zs := by
            match zs, lz with
            | [_, _, _, _], _ => rfl
          have h5 : atI (V.str "if" :: (zs ++ [v1, v2])) 5 = some v1 := by
            match zs, lz with
            | [_, _, _, _], _ => rfl
          have h6 : atI (V.str "if" :: (zs ++ [v1, v2])) 6 = some v2 := by
            match zs, lz with
            | [_, _, _, _], _ => rfl
          refine iteT ⟨_, rfl, _, rfl, _, rfl, T, _, rfl, hT1, ?_, fun T2 hT2 => ?_⟩
          · match zs, lz with
            | [_, _, _, _], _ => exact fun z => absurd z.2 (by show ¬ (min 5 7 = 7); decide)
          rw [hcut]
          have m2 := same_upd (o := .tup (V.str "if" :: zs)) hT2
          have hT2' : SqT K (upd G1 T2 (.tup (V.str "if" :: zs))) T2 (V.str "if" :: zs) := SqT.of upd_same
          have ha' : ∀ e ∈ PyData.str "if" :: as, Atom e := fun e he => by
            rcases List.mem_cons.mp he with rfl | he
            · exact atom_str wd_of
            · exact ha e he
          have hzs2 : DpAll K (upd G1 T2 (.tup (V.str "if" :: zs))) (V.str "if" :: zs) (PyData.str "if" :: as) := .cons (.str _) (DpAll.same m2 _ _ hzs)
          refine ⟨T2, rfl, ⟨_, hT2'⟩, fun D2 hD2 => ?_⟩
          refine lc_tup (K := K) (a := T2) (xs := V.str "if" :: zs) (fun j G2 => Same (upd G1 T2 (.tup (V.str "if" :: zs))) G2 ∧ G2 D2 = some (.lst (tVs (((PyData.str "if" :: as).take j).map txtD)))) ⟨same_upd hD2, upd_same⟩ (fun j G2 _ c => Same.tup c.1 hT2') (fun j y G2 hy c => ?_) (fun G2 c => ?_)
          · obtain ⟨d', hd', hyd⟩ := DpAll.at' hzs2 hy
            rcases textL_at (Dp.same c.1 _ _ hyd) (ha' d' (List.mem_of_getElem? hd')) with ⟨z, rfl, ez⟩ | ⟨o1, o2, o3, ez⟩
            · exact ⟨rfl, _, rfl, Or.inl ⟨z, rfl, by rw [← ez]; exact lcw_fin hD2 c.1 c.2 hd' (show as.length + 1 ≤ 10 by omega) fun _ _ z => z⟩⟩
            · exact ⟨rfl, _, rfl, Or.inr ⟨y, d', rfl, Dp.same c.1 _ _ hyd, o1, o2, o3, fun G' e => by rw [← ez]; exact lcw_fin hD2 c.1 c.2 hd' (show as.length + 1 ≤ 10 by omega) e⟩⟩
          · obtain ⟨s2, hG2⟩ := c
            rw [DpAll.len hzs2, List.take_length] at hG2
            have sa := m2.trans s2
            have la : ((PyData.str "if" :: as).map txtD).length ≤ 5 := by
              rw [List.length_map, List.length_cons]
              omega
            have hGD := sa _ _ hG1
            generalize hzz : (PyData.str "if" :: as).map txtD = zz at hG2 la
            have mh : ∀ {G3 : Hp}, Same G2 G3 → Same G1 G3 := fun e => sa.trans e
            -- + texts
            refine ⟨D1, D2, _, _, rfl, rfl, hGD, hG2, ?_, fun p1 hp1 => ?_⟩
            · rw [List.length_map, List.length_map]
              exact line_of (by omega)
            have q1 := same_upd (o := .lst (tVs acc ++ tVs zz)) hp1
            -- + ["("]
            refine ⟨(show 1 ≤ sizeLine by decide), fun L1 hL1 => ⟨p1, L1, _, _, rfl, rfl, same_upd hL1 _ _ upd_same, upd_same, ?_, fun p2 hp2 => ?_⟩⟩
            · rw [List.length_append, List.length_map, List.length_map]
              exact line_of (show acc.length + zz.length + 1 ≤ 100000 by omega)
            have q2 := (q1.trans (same_upd (o := .lst [V.str "("]) hL1)).trans (same_upd (o := .lst (tVs acc ++ tVs zz ++ [V.str "("])) hp2)
            -- + words
            refine ⟨_, rfl, _, _, _, _, rfl, rfl, Same.tup (mh q2) hT1, h5, v1, d1, w1, rfl, Dp.same (mh q2) _ _ hv1, r1, fun D3 G3 hD3 s3 hG3 => ?_⟩
            refine ⟨p2, D3, _, _, rfl, rfl, s3 _ _ upd_same, hG3, ?_, fun p3 hp3 => ?_⟩
            · simp only [List.length_append, List.length_map, List.length_cons, List.length_nil]
              exact line_of (by omega)
            have q3 := (q2.trans s3).trans (same_upd (o := .lst (tVs acc ++ tVs zz ++ [V.str "("] ++ tVs w1)) hp3)
            -- + [")", "else", "("]
            refine ⟨(show 3 ≤ sizeLine by decide), fun L3 hL3 => ⟨p3, L3, _, _, rfl, rfl, same_upd hL3 _ _ upd_same, upd_same, ?_, fun p4 hp4 => ?_⟩⟩
            · simp only [List.length_append, List.length_map, List.length_cons, List.length_nil]
              exact line_of (by omega)
            have q4 := (q3.trans (same_upd (o := .lst [V.str ")", V.str "else", V.str "("]) hL3)).trans (same_upd (o := .lst (tVs acc ++ tVs zz ++ [V.str "("] ++ tVs w1 ++ [V.str ")", V.str "else", V.str "("])) hp4)
            refine ⟨_, rfl, _, _, _, _, rfl, rfl, Same.tup (mh q4) hT1, h6, v2, d2, w2, rfl, Dp.same (mh q4) _ _ hv2, r2, fun D5 G5 hD5 s5 hG5 => ?_⟩
            refine ⟨p4, D5, _, _, rfl, rfl, s5 _ _ upd_same, hG5, ?_, fun p5 hp5 => ?_⟩
            · simp only [List.length_append, List.length_map, List.length_cons, List.length_nil]
              exact line_of (by omega)
            have q5 := (q4.trans s5).trans (same_upd (o := .lst (tVs acc ++ tVs zz ++ [V.str "("] ++ tVs w1 ++ [V.str ")", V.str "else", V.str "("] ++ tVs w2)) hp5)
            refine ⟨(show 1 ≤ sizeLine by decide), fun L6 hL6 => ⟨p5, L6, _, _, rfl, rfl, same_upd hL6 _ _ upd_same, upd_same, ?_, fun p6 hp6 => ?_⟩⟩
            · simp only [List.length_append, List.length_map, List.length_cons, List.length_nil]
              exact line_of (by omega)
            refine fin (mh (q5.trans (same_upd hL6))) hp6 ?_
            rw [← hzz]
            simp [tVs, txtD]
        · obtain ⟨e1, e2⟩ := List.cons.inj (PyData.tuple.inj e)
          cases e1
          subst e2
          rw [decide_eq_false (by decide +kernel)]
          refine iteF ⟨_, rfl, _, _, _, _, rfl, rfl, hT1, (show atI (V.str "repeat" :: ys) 0 = some (V.str "repeat") from atI_nat (j := 0) rfl), rfl, _, rfl, ?_⟩
          rw [str_cmp, decide_eq_true rfl]
          obtain ⟨v1, v2, rfl, hv1, hv2⟩ := dpAll2 hys
          cases hv1
          have l1 := (hR _ _ r1).1
          have hln : n.natAbs.log2 < 1920 := PySem.Flt.log2_lt_of (by decide) (Nat.lt_of_lt_of_le (show n.natAbs < 10 by omega) (by decide))
          refine iteT ⟨_, rfl, _, rfl, _, _, _, _, rfl, rfl, hT1, rfl, n, rfl, hln, (show 3 ≤ sizeLine by decide), fun L1 hL1 => ?_⟩
          have m1 := same_upd (o := .lst [V.str "repeat", V.str (Str.ofString (toString n)), V.str "("]) hL1
          refine ⟨D1, L1, _, _, rfl, rfl, m1 _ _ hG1, upd_same, ?_, fun p1 hp1 => ?_⟩
          · simp only [List.length_append, List.length_map, List.length_cons, List.length_nil]
            exact line_of (by omega)
          have q1 := m1.trans (same_upd (o := .lst (tVs acc ++ [V.str "repeat", V.str (Str.ofString (toString n)), V.str "("])) hp1)
          refine ⟨_, rfl, _, _, _, _, rfl, rfl, Same.tup q1 hT1, rfl, v2, d1, w1, rfl, Dp.same q1 _ _ hv2, r1, fun D3 G3 hD3 s3 hG3 => ?_⟩
          refine ⟨p1, D3, _, _, rfl, rfl, s3 _ _ upd_same, hG3, ?_, fun p3 hp3 => ?_⟩
          · simp only [List.length_append, List.length_map, List.length_cons, List.length_nil]
            exact line_of (by omega)
          have q3 := (q1.trans s3).trans (same_upd (o := .lst (tVs acc ++ [V.str "repeat", V.str (Str.ofString (toString n)), V.str "("] ++ tVs w1)) hp3)
          refine ⟨(show 1 ≤ sizeLine by decide), fun L3 hL3 => ⟨p3, L3, _, _, rfl, rfl, same_upd hL3 _ _ upd_same, upd_same, ?_, fun p4 hp4 => ?_⟩⟩
          · simp only [List.length_append, List.length_map, List.length_cons, List.length_nil]
            exact line_of (by omega)
          refine fin (q3.trans (same_upd hL3)) hp4 ?_
          have et : txtD (.int n) = Str.ofString (toString n) := by
            rw [str_int]
            show Tx (textL n 1) = _
            unfold textL
            rw [if_pos rfl, List.append_nil]
          rw [et]
          simp [tVs]
    · rintro σ G ⟨D, o, o3, rfl, sm, hD, hG⟩
      rw [lx, lw, List.take_length] at hG
      exact ⟨_, rfl, k D G hD sm hG⟩
end
end Lw

set_option maxRecDepth 100000
/-! A hook that tells the getters of properties too. -/
namespace VG
open PySem PySem.Spec PyProof.Rows L2
open He (ba Fa DefD Defn)
/-- a property, as its getter is written -/
structure ProD where
  cls : Str
  name : Str
  st : Stmt
def ProD.qual (d : ProD) : Str := d.cls ++ "." ++ d.name
def ProD.p (K : PySem.W.Frag) (d : ProD) : Addr := He.ma K (He.ga K d.cls) d.name
def ProD.g (K : PySem.W.Frag) (d : ProD) : Addr := match PySem.W.recIn K (d.p K) "property" with
  | some (.ref g :: _) => g
  | _ => 0
def fnP (K : PySem.W.Frag) (g : Addr) : He.FnW := match K.lookup g with
  | some ⟨_, _, .func fd, _⟩ => some (fd.name, fd.qualname, fd.params, fd.body, fd.scope, fd.globals, fd.closure, fd.builtins)
  | _ => none
def ProD.val (d : ProD) : He.FnW := some (d.name, d.qual, defArgs d.st, .stmts (defBody d.st), defScope d.st, mainGlobals, [], builtinsNs)
def proB (K : PySem.W.Frag) (d : ProD) : Bool := He.eqO (PySem.W.findIn K (.ref (He.ga K d.cls)) d.name) (some (some (.ref (d.p K)))) && (He.eqO (PySem.W.specialIn K (.ref (d.p K)) "__get__") (some (some (.builtin "property.__get__"))) &&
  (decide (PySem.W.takesIn K (.ref (d.p K)) = some true) && (PySem.W.keepIn K (.ref (d.g K)) && ((match PySem.W.recIn K (d.p K) "property" with
    | some (.ref _ :: _) => true
    | _ => false) && match K.lookup (d.g K) with
    | some ⟨_, _, .func fd, _⟩ => PySem.W.codeIn K fd.code d.qual && (He.dflB K fd.defaults [] && He.kwdB K fd.kwdefaults [])
    | _ => false))))
theorem proB_ok {K : PySem.W.Frag} {d : ProD} (e : fnP K (d.g K) = d.val) (c : proB K d = true) : PropOf K (He.ga K d.cls) d.name (d.p K) (d.g K) ∧ ∃ fd, FunD K d.name d.qual (defArgs d.st) (defBody d.st) (defScope d.st) [] [] (d.g K) fd := by
  obtain ⟨c1, c⟩ := ba c
  obtain ⟨c2, c⟩ := ba c
  obtain ⟨c3, c⟩ := ba c
  obtain ⟨kp, c⟩ := ba c
  obtain ⟨c4, c2'⟩ := ba c
  have hr : ∃ rest, PySem.W.recIn K (d.p K) "property" = some (.ref (d.g K) :: rest) := by
    unfold ProD.g
    split at c4
    · rename_i g rest hg
      exact ⟨rest, by rw [hg]⟩
    · cases c4
  refine ⟨⟨He.eqO_ok c1, He.eqO_ok c2, of_decide_eq_true c3, hr⟩, ?_⟩
  unfold fnP at e
  cases q : K.lookup (d.g K) with
  | none =>
    rw [q] at c2'
    cases c2'
  | some o =>
    obtain ⟨oc, od, dt, osl⟩ := o
    rw [q] at c2' e
    cases dt with
    | func fd =>
      obtain ⟨n1, n2, n3, n4, n5, n6, n7, n8, n9, n10, n11, n12, n13, n14, n15⟩ := fd
      have e2 : (some (n1, n2, n3, n4, n5, n6, n7, n15) : He.FnW) = some (d.name, d.qual, defArgs d.st, .stmts (defBody d.st), defScope d.st, mainGlobals, [], builtinsNs) := e
      simp only [Option.some.injEq, Prod.mk.injEq] at e2
      obtain ⟨h1, h2, h3, h4, h5, h6, h7, h8⟩ := e2
      subst h1 h2 h3 h4 h5 h6 h7 h8
      have c3 : (PySem.W.codeIn K n13 d.qual && (He.dflB K n8 [] && He.kwdB K n9 [])) = true := c2'
      obtain ⟨k1, k2⟩ := ba c3
      obtain ⟨k3, k4⟩ := ba k2
      exact ⟨_, ⟨oc, od, n8, n9, n10, n11, n12, n13, n14, osl, rfl, q, k1, He.dflB_ok k3, He.kwdB_ok k4⟩, kp⟩
    | _ => cases e
abbrev AlP : Type := AlI × List He.FnW
section
variable {n : Nat} {fa : List Fa} {fn : List DefD} {tf : List Defn} {ex : PySem.W.Frag → Bool} {ins : List IniD} {pro : List ProD}
def obsP (n : Nat) (fa : List Fa) (fn : List DefD) (tf : List Defn) (ex : PySem.W.Frag → Bool) (ins : List IniD) (pro : List ProD) (g : Addr → Option Obj) : AlP :=
  (obsI n fa fn tf ex ins g, pro.map fun d => fnP (He.frT g (asI g n)) (d.g (He.frT g (asI g n))))
structure SaysP (fa : List Fa) (fn : List DefD) (tf : List Defn) (ex : PySem.W.Frag → Bool) (ins : List IniD) (pro : List ProD) (w : World) (h : Heap) (K : PySem.W.Frag) : Prop where
  i : SaysI fa fn tf ex ins w h K
  pro_ : ∀ d ∈ pro, fnP K (d.g K) = d.val
theorem saysP_of {w : World} {h : Heap} (e : obsP n fa fn tf ex ins pro h.get? = ((He.valX fn [] w, ins.map IniD.val), pro.map ProD.val)) : SaysP fa fn tf ex ins pro w h (He.frT h.get? (asI h.get? n)) := by
  have e1 : obsI n fa fn tf ex ins h.get? = (He.valX fn [] w, ins.map IniD.val) := congrArg (fun z : AlP => z.1) e
  have e2 : (pro.map fun d => fnP (He.frT h.get? (asI h.get? n)) (d.g (He.frT h.get? (asI h.get? n)))) = pro.map ProD.val := congrArg (fun z : AlP => z.2) e
  exact ⟨saysI_of e1, fun d hd => List.map_inj_left.mp e2 d hd⟩
def hookP (n : Nat) (fa : List Fa) (fn : List DefD) (tf : List Defn) (ex : PySem.W.Frag → Bool) (ins : List IniD) (pro : List ProD) : PySem.W.Hook where
  α := AlP
  obs := fun s => obsP n fa fn tf ex ins pro s.heap.get?
  val := fun w => ((He.valX fn [] w, ins.map IniD.val), pro.map ProD.val)
  says := fun w h => ∃ K : PySem.W.Frag, K.In h ∧ SaysP fa fn tf ex ins pro w h K
  of := fun _ _ e => ⟨_, He.frT_in, saysP_of e⟩
  keeps := fun _ _ _ ⟨K, hK, c⟩ k => ⟨K, PySem.W.Frag.In.keeps hK k, ⟨⟨c.i.x.t, c.i.x.more, c.i.x.hd, c.i.x.out, fun p hp => k _ _ (c.i.x.empty p hp)⟩, c.i.ini⟩, c.pro_⟩
theorem obsP_eq {g : Addr → Option Obj} {s : Shared} (h : ∀ a, g a = s.heap.get? a) : obsP n fa fn tf ex ins pro g = (hookP n fa fn tf ex ins pro).obs s := by
  have e : g = s.heap.get? := funext h
  rw [e] <;> rfl
end
/-! ### a constant read off the class; a default that is an empty tuple -/
def cvalB (K : PySem.W.Frag) (C f : Str) (i : Int) : Bool := PySem.W.readsIn K (He.ga K C) (.type "type") && (He.eqO (PySem.W.specialIn K (.ref (He.ga K C)) "__getattribute__") (some (some (.builtin "type.__getattribute__"))) &&
  match PySem.W.findCls K (.ref (He.ga K C)) (.type "type") f with
  | some (.val (.int j _)) => decide (j = i)
  | _ => false)
theorem cvalB_ok {K : PySem.W.Frag} {C f : Str} {i : Int} (h : cvalB K C f i = true) : ∃ u, ClX.CRead K (He.ga K C) (.type "type") ∧ ClX.CVal K (He.ga K C) (.type "type") f (.int i) u := by
  obtain ⟨h1, h⟩ := ba h
  obtain ⟨h2, h3⟩ := ba h
  split at h3
  · rename_i j t hj
    exact ⟨_, ⟨h1, He.eqO_ok h2⟩, hj, t, by rw [of_decide_eq_true h3]⟩
  · cases h3
def nilB (K : PySem.W.Frag) (e : Addr) : Bool := match K.lookup e with
  | some ⟨.type c, _, .seq its _, _⟩ => decide (c = "tuple") && decide (its = #[])
  | _ => false
theorem nilB_ok {K : PySem.W.Frag} {e : Addr} (h : nilB K e = true) (H : Hp) : SqT K H e [] := by
  unfold nilB at h
  split at h
  · rename_i c od its m osl q
    obtain ⟨h1, h2⟩ := ba h
    have e1 := of_decide_eq_true h1
    have e2 := of_decide_eq_true h2
    subst e1 e2
    exact .inr ⟨_, #[], m, q, rfl, rfl, by decide, .nil⟩
  · cases h
end VG

set_option maxRecDepth 100000
set_option linter.unusedVariables false
namespace Lw
open PySem PySem.Spec PyProof.Rows L2 VG
open TL (numL)
open NumText (AllDigits digitsVal)
/-! ### reading -/
/-- without one minus ahead -/
def strip : List Nat → List Nat
  | 45 :: r => r
  | l => l
theorem strip_of {l : List Nat} (h : l.head? ≠ some 45) : strip l = l := by
  match l, h with
  | [], _ => rfl
  | c :: r, h =>
    unfold strip
    split
    · rename_i q
      rw [(List.cons.inj q).1] at h
      exact absurd rfl h
    · rfl
theorem head_45 {l : List Nat} (h : l.head? = some 45) : ∃ r, l = 45 :: r := by
  cases l with
  | nil => cases h
  | cons c r =>
    have : c = 45 := Option.some.inj h
    exact ⟨r, by rw [this]⟩
theorem strip_top (t : Int) : strip (topL t) = numL t.natAbs := by
  unfold topL
  by_cases h : t < 0
  · rw [if_pos h]
    rfl
  · rw [if_neg h]
    exact strip_of num_head
theorem prefix_strip (a : List Nat) : Txt.removeprefix (Tx a) "-" = Tx (strip a) := by
  have e : Builtin.Str.subAt (Tx a) "-" 0 = ((a.drop 0).take 1 == [45]) := StrLaws.subAt_eq (Tx a) "-" 0
  unfold Txt.removeprefix
  rw [e]
  match a with
  | [] => rfl
  | c :: r =>
    by_cases h : c = 45
    · subst h
      have e2 : (((45 :: r : List Nat).drop 0).take 1 == [45]) = true := rfl
      rw [e2, if_pos rfl]
      have ne : ((Tx (45 :: r)).length - ("-" : Str).length == (Tx (45 :: r)).length) = false := by
        rw [tx_len]
        show (r.length + 1 - 1 == r.length + 1) = false
        exact beq_eq_false_iff_ne.mpr (by omega)
      show (if ((Tx (45 :: r)).length - ("-" : Str).length == (Tx (45 :: r)).length) = true then Tx (45 :: r) else Builtin.Str.strSub (Tx (45 :: r)) 1 (Tx (45 :: r)).length) = Tx r
      rw [ne, if_neg (by decide)]
      refine TL.ext_tl ?_
      rw [TL.tl_strSub_end]
      rfl
    · have e2 : (((c :: r : List Nat).drop 0).take 1 == [45]) = false := by
        show ([c] == [45]) = false
        exact beq_eq_false_iff_ne.mpr fun z => h (List.cons.inj z).1
      rw [e2, if_neg (by decide), strip_of (by intro z; exact h (Option.some.inj z))]
      rfl
/-- what int() makes of it -/
def valS (a : List Nat) : Int := if a.head? = some 45 then -((digitsVal a.tail : Nat) : Int) else ((digitsVal a : Nat) : Int)
theorem valS_neg (r : List Nat) : valS (45 :: r) = -((digitsVal r : Nat) : Int) := if_pos rfl
theorem valS_pos {a : List Nat} (h : a.head? ≠ some 45) : valS a = ((digitsVal a : Nat) : Int) := if_neg h
theorem val_top (t : Int) : valS (topL t) = t := by
  unfold topL
  by_cases h : t < 0
  · rw [if_pos h]
    show valS (45 :: numL t.natAbs) = t
    rw [valS_neg, TL.numL_val]
    omega
  · rw [if_neg h]
    show valS (numL t.natAbs) = t
    rw [valS_pos num_head, TL.numL_val]
    omega
theorem int_strip {a : List Nat} (h : AllDigits (strip a)) (hn : strip a ≠ []) (hl : (strip a).length ≤ 60) : PySem.intText? (Tx a) = some (valS a) ∧ (Tx a).length ≤ 640 ∧ (valS a).natAbs < 10 ^ 60 := by
  have small : ∀ l : List Nat, AllDigits l → l.length ≤ 60 → digitsVal l < 10 ^ 60 := by
    have key : ∀ (k : Nat) (l : List Nat), l.length = k → AllDigits l → digitsVal l < 10 ^ k := by
      intro k
      induction k with
      | zero => intro l hl _; rw [List.length_eq_zero_iff.mp hl]; decide
      | succ k ih =>
        intro l hl hd
        have hn : l ≠ [] := fun z => by rw [z] at hl; cases hl
        obtain ⟨i, c, rfl⟩ : ∃ i c, l = i ++ [c] := ⟨l.dropLast, l.getLast hn, (List.dropLast_concat_getLast hn).symm⟩
        have hl : i.length = k := by simpa using hl
        obtain ⟨hi, hc⟩ := digs_app hd
        have hc := hc c (List.mem_singleton.mpr rfl)
        rw [val_snoc]
        have := ih i hl hi
        rw [Nat.pow_succ]
        omega
    intro l hd hl
    exact Nat.lt_of_lt_of_le (key _ l rfl hd) (Nat.pow_le_pow_right (by decide) hl)
  by_cases h45 : a.head? = some 45
  · obtain ⟨r, rfl⟩ := head_45 h45
    have h : AllDigits r := h
    have hn : r ≠ [] := hn
    have hl : r.length ≤ 60 := hl
    have ln : (Tx (45 :: r)).length ≤ 640 := by rw [tx_len]; show r.length + 1 ≤ 640; omega
    refine ⟨?_, ln, ?_⟩
    · exact intText_neg (x := Tx (45 :: r)) rfl h hn (by omega)
    · show (-((digitsVal r : Nat) : Int)).natAbs < 10 ^ 60
      have := small r h hl
      omega
  · rw [strip_of h45] at h hn hl
    have ln : (Tx a).length ≤ 640 := by rw [tx_len]; omega
    have ev : valS a = ((digitsVal a : Nat) : Int) := if_neg h45
    refine ⟨?_, ln, ?_⟩
    · rw [ev]
      exact intText_digits (x := Tx a) h hn (by omega)
    · rw [ev]
      have := small a h hl
      omega
/-- are these figures -/
def figB (l : List Nat) : Bool := Txt.isascii (Tx l) && (Txt.isdigit (Tx l) && decide (((Tx l).length : Int) ≤ 60))
theorem dig_ascii : ∀ c, c < 128 → Unicode.isDigit c = decide (48 ≤ c ∧ c ≤ 57) := by decide +kernel
theorem figB_iff (l : List Nat) : figB l = true ↔ AllDigits l ∧ l ≠ [] ∧ l.length ≤ 60 := by
  unfold figB Txt.isascii Txt.isdigit
  rw [tx_len, ← Array.all_toList, ← Array.all_toList]
  show (l.all (fun c => decide (c < 128)) && ((decide (l.length > 0) && l.all Unicode.isDigit) && decide ((l.length : Int) ≤ 60))) = true ↔ _
  simp only [Bool.and_eq_true, decide_eq_true_eq, List.all_eq_true]
  constructor
  · rintro ⟨h1, ⟨h2, h3⟩, h4⟩
    refine ⟨fun c hc => ?_, fun z => by rw [z] at h2; exact absurd h2 (by decide), by omega⟩
    have := h3 c hc
    rw [dig_ascii c (h1 c hc)] at this
    exact of_decide_eq_true this
  · rintro ⟨h1, h2, h3⟩
    refine ⟨fun c hc => ?_, ⟨List.length_pos_iff.mpr h2, fun c hc => ?_⟩, by omega⟩
    · have := h1 c hc
      omega
    · have z := h1 c hc
      rw [dig_ascii c (by omega)]
      exact decide_eq_true z
/-- cut at the first slash, 1 for what is missing -/
def Cut (l a b : List Nat) : Prop := 47 ∉ a ∧ (l = a ++ 47 :: b ∨ (l = a ∧ b = [49]))
theorem num_one : numL 1 = [49] := TL.numL_lt (by decide)
theorem cut_of {l a b : List Nat} {t c : Int} (hc : Cut l a b) (h : IsR t c l) : a = topL t ∧ b = numL c.natAbs := by
  obtain ⟨h47, hl⟩ := hc
  have e := h.txt
  unfold textL at e
  have hp := h.pos
  rcases hl with rfl | ⟨rfl, rfl⟩
  · by_cases h1 : c = 1
    · rw [if_pos h1, List.append_nil] at e
      exact absurd (by rw [← e]; exact List.mem_append_right _ List.mem_cons_self) (top_47 t)
    · rw [if_neg h1] at e
      exact cut_one h47 (top_47 t) e
  · by_cases h1 : c = 1
    · rw [if_pos h1, List.append_nil] at e
      exact ⟨e, by rw [h1]; exact num_one.symm⟩
    · rw [if_neg h1] at e
      exact absurd (by rw [e]; exact List.mem_append_right _ List.mem_cons_self) h47
theorem cut_ex (l : List Nat) : ∃ a b, 47 ∉ a ∧ (l = a ++ 47 :: b ∨ (l = a ∧ 47 ∉ l)) := by
  induction l with
  | nil => exact ⟨[], [], by simp, .inr ⟨rfl, by simp⟩⟩
  | cons c r ih =>
    by_cases h : c = 47
    · exact ⟨[], r, by simp, .inl (by rw [h]; rfl)⟩
    · obtain ⟨a, b, ha, hb⟩ := ih
      have hca : 47 ∉ c :: a := fun z => by
        rcases List.mem_cons.mp z with z | z
        · exact h z.symm
        · exact ha z
      rcases hb with rfl | ⟨rfl, hr⟩
      · exact ⟨c :: a, b, hca, .inl rfl⟩
      · exact ⟨c :: r, [], hca, .inr ⟨rfl, hca⟩⟩
/-- some data read as a ratio -/
structure Reads (d : PyData) (t b : Int) : Prop where
  ex : ∃ x : Str, d = .str x ∧ IsR t b x.cps.toList
  top : t.natAbs < 10 ^ 60
  bot : b.natAbs < 10 ^ 60
theorem Reads.str {x : Str} {t b : Int} (h : Reads (.str x) t b) : IsR t b x.cps.toList := by
  obtain ⟨y, e, h⟩ := h.ex
  cases e
  exact h
end Lw

set_option maxRecDepth 100000
set_option linter.unusedVariables false
namespace Lw
open PySem PySem.Spec PyProof.Rows L2 VG
open TL (numL)
open NumText (AllDigits digitsVal)
structure NmN (mg : Str → Option Value) : Prop where
  isi : mg "isinstance" = none
  str : mg "str" = none
  len : mg "len" = none
def laysD : List PyData := [.str "foot", .str "cart"]
def layD (n : Nat) (d : PyData) : Bool := (laysD.take n).any fun z => PyData.eqv z d
structure NmL (K : PySem.W.Frag) (mg : Str → Option Value) (L : Addr) : Prop where
  lays : mg "LAYERS" = some (.ref L)
  them : ∀ H, SqT K H L [.str "foot", .str "cart"]
/-- what stands for a kind -/
def LenD (d : PyData) : Prop := okR d = true ∧ 0 ≤ (ratD d).1 ∧ (ratD d).1 ≤ 1000000 ∧ (ratD d).2 ≤ 60
def nmB (z : Str) : Prop := nameB z = true ∧ z.length ≤ 5
inductive KindOk : Str → PyData → Prop
  | layer {z : Str} (h : layB z) : KindOk "layer" (.str z)
  | name {z : Str} (h : nmB z) : KindOk "name" (.str z)
  | new {z : Str} (h : nmB z) : KindOk "new" (.str z)
  | length {d : PyData} (h : LenD d) : KindOk "length" d
  | scale {d : PyData} (h : LenD d) (g : 0 < (ratD d).1) : KindOk "scale" d
theorem strip_len (a : List Nat) : (strip a).length ≤ a.length := by
  unfold strip
  split
  · show _ ≤ _ + 1
    omega
  · exact Nat.le_refl _
section
variable {P : Program} {w : World} {K : PySem.W.Frag} {mg : Str → Option Value} {base : Heap}
def spLet : Sp := fun vs H Q _ => ∃ z : Str, vs = [.str z, .int 5] ∧ z.length ≤ 1000 ∧ Q (.bl (nameB z)) H
theorem scLet : FnScope ["value", "most"] ["value", "most"] (defScope s__are_letters) := ⟨rfl, rfl, rfl, by decide +kernel, rfl, by decide +kernel, by decide +kernel⟩
theorem ok_let {f : Addr} {fd : FuncData} (F : Fun K "_are_letters" "_are_letters" s__are_letters f fd) (T : NmN mg) : FnOk P w K mg base CX0 1 f fd ["value", "most"] spLet := by
  refine F.ok scLet (fun vs H Q E h => ?_) (fun cdv A outer s H vs Q E hr h => ?_)
  · obtain ⟨z, rfl, _⟩ := h
    rfl
  · obtain ⟨z, rfl, hz, k⟩ := h
    refine ⟨_, pss_one (ps_ret (pe_and (pe_callB call_isi (by rfl) T.isi (by decide +kernel) (pa_cons (pv 0) (pa_cons (pe_bltn (v := .ty "str") (by rfl) T.str (by decide +kernel) rfl) pa_nil)))
      (pe_and (pe_cmpR op_le (pe_callB call_len (by rfl) T.len PySem.boot_len (pa_cons (pv 0) pa_nil)) (pv 1) (nomark _))
      (pe_and (pe_m0 PySem.F.slot_str_isascii PySem.F.type_str_isascii mt_isascii (pv 0)) (pe_and (pe_m0 PySem.F.slot_str_isalpha PySem.F.type_str_isalpha mt_isalpha (pv 0)) (pe_one (pe_m0 PySem.F.slot_str_islower PySem.F.type_str_islower mt_islower (pv 0)))))))), ?_⟩
    refine ⟨_, rfl, _, _, _, _, true, rfl, .ty "str", .base (.str z), kit_ty (by decide +kernel), _, rfl, iteT ?_⟩
    refine ⟨_, rfl, _, z.length, rfl, ⟨Nat.le_trans hz (by decide), rfl⟩, _, rfl, _, _, rfl, rfl, _, rfl, ?_⟩
    unfold nameB at k
    cases e1 : decide ((z.length : Int) ≤ 5) with
    | false =>
      rw [e1] at k
      exact iteF k
    | true =>
      rw [e1] at k
      refine iteT ⟨_, rfl, ⟨_, rfl⟩, _, rfl, rfl, trivial, _, rfl, ?_⟩
      cases e2 : Txt.isascii z with
      | false =>
        rw [e2] at k
        exact iteF k
      | true =>
        rw [e2] at k
        refine iteT ⟨_, rfl, ⟨_, rfl⟩, _, rfl, rfl, trivial, _, rfl, ?_⟩
        cases e3 : Txt.isalpha z with
        | false =>
          rw [e3] at k
          exact iteF k
        | true =>
          rw [e3] at k
          exact iteT ⟨_, rfl, ⟨_, rfl⟩, _, rfl, rfl, trivial, k⟩
def spName : Sp := fun vs H Q _ => ∃ z : Str, vs = [.str z] ∧ z.length ≤ 1000 ∧ Q (.bl (nameB z)) H
theorem scName : FnScope ["value"] ["value"] (defScope s_is_name) := ⟨rfl, rfl, rfl, by decide +kernel, rfl, by decide +kernel, by decide +kernel⟩
theorem ok_name {f fA : Addr} {fd fdA : FuncData} (F : Fun K "is_name" "is_name" s_is_name f fd) (T : NmN mg) (FA : Fun K "_are_letters" "_are_letters" s__are_letters fA fdA) (mA : mg "_are_letters" = some (.ref fA)) (bA : Binds K fdA ["value", "most"] []) :
    FnOk P w K mg base CX0 2 f fd ["value"] spName := by
  have GA : FnOk P w K mg base CX0 1 fA fdA ["value", "most"] spLet := ok_let FA T
  refine F.ok scName (fun vs H Q E h => ?_) (fun cdv A outer s H vs Q E hr h => ?_)
  · obtain ⟨z, rfl, _⟩ := h
    rfl
  · obtain ⟨z, rfl, hz, k⟩ := h
    refine ⟨_, pss_one (ps_ret (pe_call GA hr (by rfl) mA FA.kp bA .nil pass0 (pa_cons (pv 0) (pa_cons pe_int pa_nil)))), ?_⟩
    exact ⟨_, rfl, z, rfl, hz, k⟩
theorem strs_two {H : Hp} : DpAll K H [.str "foot", .str "cart"] laysD := .cons (.str _) (.cons (.str _) .nil)
def spLayer (K : PySem.W.Frag) : Sp := fun vs H Q _ => ∃ (x : V) (d : PyData) (n : Nat), vs = [x, .int n] ∧ (n = 1 ∨ n = 2) ∧ Dp K H x d ∧ Sm d ∧ ∀ H', Same H H' → Q (.bl (layD n d)) H'
theorem scLayer : FnScope ["value", "layers"] ["value", "layers"] (defScope s_is_layer) := ⟨rfl, rfl, rfl, by decide +kernel, rfl, by decide +kernel, by decide +kernel⟩
theorem ok_layer {f L : Addr} {fd : FuncData} (F : FunD K "is_layer" "is_layer" (defArgs s_is_layer) (defBody s_is_layer) (defScope s_is_layer) [.int 2] [] f fd) (T : NmL K mg L) : FnOk P w K mg base CX0 1 f fd ["value", "layers"] (spLayer K) := by
  refine F.ok scLayer (fun vs H Q E h => ?_) (fun cdv A outer s H vs Q E hr h => ?_)
  · obtain ⟨x, d, n, rfl, _⟩ := h
    rfl
  · obtain ⟨x, d, n, rfl, hn, hx, hd, k⟩ := h
    have hu : A.units + 3 + 65 < cLine := by
      have := hr.un
      show _ < _
      simp only [PySem.Around.deeper_units] at this
      omega
    refine ⟨_, PSs.nox (pss_one (ps_ret (pe_cmpR (op_inT hu) (pv 0) (pe_slice sl_tupA (pe_glob (v := .ref L) (by rfl) T.lays rfl) po_none (po_some (pv 1))) (by rfl)))), ?_⟩
    refine ⟨_, rfl, _, rfl, _, rfl, L, _, rfl, T.them H, fun hw => ?_, fun hw p hp => ?_⟩
    · have e : n = 2 := by
        rcases hn with rfl | rfl
        · exact absurd hw.2 (by decide)
        · rfl
      subst e
      refine ⟨d, laysD, hx, .tup (T.them H) strs_two, hd.shaped, by decide +kernel, ?_⟩
      exact k H (Same.refl H)
    · have e : n = 1 := by
        rcases hn with rfl | rfl
        · rfl
        · exact absurd ⟨rfl, rfl⟩ hw
      subst e
      have sm : Same H (upd H p (.tup (cutV [.str "foot", .str "cart"] none (some ((1 : Nat) : Int))))) := fun b o z => by rw [upd_ne (ne_of_none z hp)]; exact z
      refine ⟨d, [.str "foot"], Dp.same sm d x hx, .tup (SqT.of upd_same) (.cons (.str _) .nil), hd.shaped, by decide +kernel, ?_⟩
      exact k _ sm
def spCan (K : PySem.W.Frag) : Sp := fun vs H Q _ => ∃ (x : V) (d : PyData), vs = [x] ∧ Dp K H x d ∧ Q (.bl (okR d)) H
theorem scCan : FnScope ["value"] ["value"] (defScope s_can_be_ratio) := ⟨rfl, rfl, rfl, by decide +kernel, rfl, by decide +kernel, by decide +kernel⟩
theorem ok_can {f fW fR : Addr} {fd fdW fdR : FuncData} (F : Fun K "can_be_ratio" "can_be_ratio" s_can_be_ratio f fd) (FW : Fun K "_is_whole" "_is_whole" s__is_whole fW fdW) (FR : Fun K "is_ratio" "is_ratio" s_is_ratio fR fdR) (T : NmR mg)
    (mW : mg "_is_whole" = some (.ref fW)) (bW : Binds K fdW ["value"] []) (mR : mg "is_ratio" = some (.ref fR)) (bR : Binds K fdR ["value"] []) : FnOk P w K mg base CX0 3 f fd ["value"] (spCan K) := by
  refine F.ok scCan (fun vs H Q E h => ?_) (fun cdv A outer s H vs Q E hr h => ?_)
  · obtain ⟨x, d, rfl, _⟩ := h
    rfl
  · obtain ⟨x, d, rfl, hx, q⟩ := h
    refine ⟨_, pss_one (ps_ret (pe_or (pe_call (ok_whole FW T.w) (hr.mono (by omega)) (by rfl) mW FW.kp bW .nil pass0 (pa_cons (pv 0) pa_nil)) (pe_one (pe_call (ok_isRat FR FW T mW bW) hr (by rfl) mR FR.kp bR .nil pass0 (pa_cons (pv 0) pa_nil))))), ?_⟩
    refine ⟨_, rfl, x, d, rfl, hx, _, rfl, ?_⟩
    unfold okR at q
    cases e : whole d with
    | true =>
      rw [e] at q
      exact iteT q
    | false =>
      rw [e] at q
      exact iteF ⟨_, rfl, x, d, rfl, hx, q⟩
theorem scFigs : FnScope ["text"] ["text"] (defScope s__are_figures) := ⟨rfl, rfl, rfl, by decide +kernel, rfl, by decide +kernel, by decide +kernel⟩
def spFigs : Sp := fun vs H Q _ => ∃ l : List Nat, vs = [.str (Tx l)] ∧ l.length ≤ 1000 ∧ Q (.bl (figB l)) H
structure NmF (mg : Str → Option Value) : Prop where
  len : mg "len" = none
  most : ∃ u, mg "MOST_FIGURES" = some u ∧ RelV (.int 60) u
theorem ok_figs {f : Addr} {fd : FuncData} (F : Fun K "_are_figures" "_are_figures" s__are_figures f fd) (T : NmF mg) : FnOk P w K mg base CX0 1 f fd ["text"] spFigs := by
  refine F.ok scFigs (fun vs H Q E h => ?_) (fun cdv A outer s H vs Q E hr h => ?_)
  · obtain ⟨l, rfl, _⟩ := h
    rfl
  · obtain ⟨l, rfl, hl, k⟩ := h
    obtain ⟨u, mu, ru⟩ := T.most
    refine ⟨_, pss_one (ps_ret (pe_and (pe_m0 PySem.F.slot_str_isascii PySem.F.type_str_isascii mt_isascii (pv 0)) (pe_and (pe_m0 PySem.F.slot_str_isdigit PySem.F.type_str_isdigit mt_isdigit (pv 0))
      (pe_one (pe_cmpR op_le (pe_callB call_len (by rfl) T.len PySem.boot_len (pa_cons (pv 0) pa_nil)) (pe_glob (v := .int 60) (by rfl) mu ru) (nomark _)))))), ?_⟩
    refine ⟨_, rfl, ⟨_, rfl⟩, _, rfl, rfl, trivial, _, rfl, ?_⟩
    unfold figB at k
    cases e1 : Txt.isascii (Tx l) with
    | false =>
      rw [e1] at k
      exact iteF k
    | true =>
      rw [e1] at k
      refine iteT ⟨_, rfl, ⟨_, rfl⟩, _, rfl, rfl, trivial, _, rfl, ?_⟩
      cases e2 : Txt.isdigit (Tx l) with
      | false =>
        rw [e2] at k
        exact iteF k
      | true =>
        rw [e2] at k
        refine iteT ⟨_, rfl, _, (Tx l).length, rfl, ⟨fits_line (by rw [tx_len]; exact hl), rfl⟩, _, _, rfl, rfl, k⟩
theorem scRead : FnScope ["text", "top", "slash", "bottom", "value"] ["text"] (defScope s_read_ratio) := ⟨rfl, rfl, rfl, by decide +kernel, rfl, by decide +kernel, by decide +kernel⟩
/-- read_ratio of the text of a ratio -/
def spReadR (K : PySem.W.Frag) : Sp := fun vs H Q _ => ∃ (z : Str) (t b : Int), vs = [.str z] ∧ IsR t b z.cps.toList ∧ t.natAbs < 10 ^ 60 ∧ b.natAbs < 10 ^ 60 ∧ z.length ≤ 1000 ∧
  ∀ (T : Addr) (H' : Hp), H T = none → Same H H' → SqT K H' T [.int t, .int b] → Q (.ref T) H'
theorem ok_readR {f fW fR fT fF : Addr} {fd fdW fdR fdT fdF : FuncData} (F : Fun K "read_ratio" "read_ratio" s_read_ratio f fd) (TR : NmR mg) (ms : mg "str" = none) (mi : mg "int" = none)
    (FW : Fun K "_is_whole" "_is_whole" s__is_whole fW fdW) (mW : mg "_is_whole" = some (.ref fW)) (bW : Binds K fdW ["value"] []) (FR : Fun K "is_ratio" "is_ratio" s_is_ratio fR fdR) (mR : mg "is_ratio" = some (.ref fR)) (bR : Binds K fdR ["value"] [])
    (GT : FnOk P w K mg base CX0 4 fT fdT ["value"] (spText K)) (mT : mg "ratio_text" = some (.ref fT)) (kT : PySem.W.keepIn K (.ref fT) = true) (bT : Binds K fdT ["value"] [])
    (GF : FnOk P w K mg base CX0 1 fF fdF ["text"] spFigs) (mF : mg "_are_figures" = some (.ref fF)) (kF : PySem.W.keepIn K (.ref fF) = true) (bF : Binds K fdF ["text"] []) :
    FnOk P w K mg base CX0 5 f fd ["text"] (spReadR K) := by
  refine F.ok scRead (fun vs H Q E h => ?_) (fun cdv A outer s H vs Q E hr h => ?_)
  · obtain ⟨z, t, b, rfl, _⟩ := h
    rfl
  · obtain ⟨z, t, c, rfl, isR, t60, b60, hz, q⟩ := h
    have nd := scRead.nd
    have hr1 : Room 1 _ := hr.mono (by decide)
    have hr2 : Room 2 _ := hr.mono (by decide)
    refine ⟨_, pss_cons (ps_if (pt_not (pt_val (pe_callB call_isi (by rfl) TR.w.isi (by decide +kernel) (pa_cons (pv 0) (pa_cons (pe_bltn (v := .ty "str") (by rfl) ms (by decide +kernel) rfl) pa_nil))))) pss_false pss_nil)
      (pss_cons (ps_asg (pe_partition (pv 0) pe_str) (pg_tup (by rfl) (pgs_cons (pg_name (i := 1) nd rfl (Or.inl rfl)) (pgs_cons (pg_name (i := 2) nd rfl (Or.inl rfl)) (pgs_cons (pg_name (i := 3) nd rfl (Or.inl rfl)) pgs_nil)))))
      (C8.pss_cut (ps_if (pt_not (pt_truth (pv 2) (fun _ => rfl))) (pss_one (ps_set (i := 3) nd rfl (Or.inl rfl) pe_str)) pss_nil)
      (pss_cons (ps_if (PW.pt (pw_and (pt_val (pe_call GF hr1 (by rfl) mF kF bF .nil pass0 (pa_cons (pe_m1 PySem.F.slot_str_removeprefix PySem.F.type_str_removeprefix mt_removeprefix (pv 1) pe_str) pa_nil)))
          (pw_and1 (pt_val (pe_call GF hr1 (by rfl) mF kF bF .nil pass0 (pa_cons (pv 3) pa_nil))))))
        (pss_cons (ps_set (i := 4) nd rfl (Or.inl rfl) (pe_tup (pa_cons (pe_callTy call_int_str (by rfl) mi (by decide +kernel) (pa_cons (pv 1) pa_nil)) (pa_cons (pe_callTy call_int_str (by rfl) mi (by decide +kernel) (pa_cons (pv 3) pa_nil)) pa_nil))))
        (pss_one (ps_if (PW.pt (pw_and (pt_val (pe_call (ok_isRat FR FW TR mW bW) hr2 (by rfl) mR FR.kp bR .nil pass0 (pa_cons (pv 4) pa_nil))) (pw_and1 (pt_cmpR op_eq (pe_call GT hr (by rfl) mT kT bT .nil pass0 (pa_cons (pv 4) pa_nil)) (pv 0) (nomark _)))))
          (pss_one (ps_ret (pv 4))) pss_nil))) pss_nil)
      (pss_one ps_false)))), ?_⟩
    obtain ⟨a, b0, ha, hb0⟩ := cut_ex z.cps.toList
    have hzl : z.length = z.cps.toList.length := by simp [Str.length]
    have hla : a.length ≤ 1000 := by
      rcases hb0 with e | ⟨e, _⟩
      · rw [e, List.length_append, List.length_cons] at hzl
        omega
      · rw [e] at hzl
        omega
    refine ⟨_, rfl, _, _, _, _, true, rfl, .ty "str", .base (.str z), kit_ty (by decide +kernel), _, rfl, iteF ?_⟩
    refine ⟨_, rfl, ⟨_, rfl⟩, z, _, rfl, rfl, rfl, fits_line hz, fun T hT => ?_⟩
    have mT := same_upd (o := .tup [.str (Txt.partition z "/").1, .str (Txt.partition z "/").2.1, .str (Txt.partition z "/").2.2]) hT
    refine ⟨T, _, rfl, SqT.of upd_same, rfl, _, _, rfl, _, _, rfl, _, _, rfl, rfl, ?_⟩
    refine ⟨fun σ G => ∃ (s2 : V) (b : List Nat), σ = [some (.str z), some (.str (Tx a)), some s2, some (.str (Tx b)), none] ∧ Cut z.cps.toList a b ∧ b.length ≤ 1000 ∧ Same H G, ?_, ?_⟩
    · rcases hb0 with e | ⟨e, hl⟩
      · have hp : Txt.partition z "/" = (Tx a, ("/" : Str), Tx b0) := by
          have ez : z = Tx a ++ ("/" : Str) ++ Tx b0 := by
            refine TL.ext_tl ?_
            rw [TL.tl_append, TL.tl_append]
            show z.cps.toList = (a ++ [47]) ++ b0
            rw [e, List.append_assoc]
            rfl
          rw [ez]
          exact TL.partition_app (y := "/") (s := 47) (S := []) rfl ha
        have hb : b0.length ≤ 1000 := by
          rw [e, List.length_append, List.length_cons] at hzl
          omega
        rw [hp] at mT ⊢
        exact ⟨_, rfl, _, ⟨(by show 1 ≤ sizeLine; decide), rfl⟩, iteF ⟨_, b0, rfl, ⟨ha, .inl e⟩, hb, mT⟩⟩
      · have hp : Txt.partition z "/" = (z, Str.empty, Str.empty) := TL.partition_none (y := "/") (s := 47) (S := []) rfl hl
        rw [hp] at mT ⊢
        have ez : z = Tx a := by rw [← e]
        refine ⟨_, rfl, _, ⟨(by show 0 ≤ sizeLine; decide), rfl⟩, iteT ⟨.str Str.empty, [49], ?_, ⟨ha, .inr ⟨e, rfl⟩⟩, by decide, mT⟩⟩
        rw [ez]
        rfl
    · rintro σ G ⟨s2, b, rfl, hcut, hb, sm⟩
      obtain ⟨e1, e2⟩ := cut_of hcut isR
      have f1 : figB (strip a) = true := by
        rw [e1, strip_top]
        exact (figB_iff _).mpr ⟨TL.numL_digits _, TL.numL_ne _, num_60 t60⟩
      have f2 : figB b = true := by
        rw [e2]
        exact (figB_iff _).mpr ⟨TL.numL_digits _, TL.numL_ne _, num_60 b60⟩
      refine ⟨_, rfl, ⟨_, rfl⟩, Tx a, _, rfl, rfl, fits_line (by rw [tx_len]; exact hla), strip a, by rw [prefix_strip]; rfl, Nat.le_trans (strip_len a) hla, _, rfl, ?_⟩
      rw [f1]
      refine iteT ⟨_, rfl, b, rfl, hb, _, rfl, ?_⟩
      rw [f2]
      obtain ⟨d1, n1, l1⟩ := (figB_iff _).mp f1
      obtain ⟨d2, n2, l2⟩ := (figB_iff _).mp f2
      obtain ⟨i1, i2, i3⟩ := int_strip d1 n1 l1
      have no45 : b.head? ≠ some 45 := fun hh => by
        obtain ⟨r, e⟩ := head_45 hh
        have := d2 45 (by rw [e]; exact List.mem_cons_self)
        omega
      have j0 : strip b = b := strip_of no45
      have jv : valS b = ((digitsVal b : Nat) : Int) := valS_pos no45
      obtain ⟨j1, j2, j3⟩ := int_strip (a := b) (by rw [j0]; exact d2) (by rw [j0]; exact n2) (by rw [j0]; exact l2)
      have va : valS a = t := by rw [e1]; exact val_top t
      have vb : valS b = c := by
        rw [jv, e2, TL.numL_val]
        have := isR.pos
        omega
      rw [va] at i1 i3
      rw [vb] at j1 j3
      refine iteT ⟨_, rfl, Tx a, _, rfl, i1, i2, _, rfl, Tx b, _, rfl, j1, j2, (by show 2 ≤ sizeLine; decide), fun T2 hT2 => ?_⟩
      have m2 := same_upd (o := .tup [.int t, .int c]) hT2
      have dT : ∀ {G2 : Hp}, Same (upd G T2 (.tup [.int t, .int c])) G2 → Dp K G2 (.ref T2) (.tuple [.int t, .int c]) := fun {G2} sm3 => .tup (Same.tup sm3 (SqT.of upd_same)) (.cons (.int _) (.cons (.int _) .nil))
      have r1 : isRat (.tuple [.int t, .int c]) = true := by
        show (true && (true && (decide (1 ≤ c) && decide (Nat.gcd t.natAbs c.natAbs = 1)))) = true
        rw [decide_eq_true isR.pos, decide_eq_true isR.low]
        rfl
      refine ⟨_, rfl, .ref T2, .tuple [.int t, .int c], rfl, dT (Same.refl _), _, rfl, ?_⟩
      rw [r1]
      have ok : okR (.tuple [.int t, .int c]) = true := by unfold okR; rw [r1, Bool.or_true]
      refine iteT ⟨_, rfl, .ref T2, _, rfl, dT (Same.refl _), ok, t60, b60, fun H3 sm3 => ?_⟩
      have ez : Tx (textL t c) = z := by rw [← isR.txt]
      refine ⟨_, rfl, rfl, _, rfl, ?_⟩
      have ez2 : Tx (textL (ratD (.tuple [.int t, .int c])).1 (ratD (.tuple [.int t, .int c])).2) = z := ez
      rw [ez2, decide_eq_true rfl]
      exact iteT ⟨_, rfl, q T2 H3 (sm.free hT2) ((sm.trans m2).trans sm3) (Same.tup sm3 (SqT.of upd_same))⟩
theorem scOrNone : FnScope ["text"] ["text"] (defScope s_ratio_or_none) := ⟨rfl, rfl, rfl, by decide +kernel, rfl, by decide +kernel, by decide +kernel⟩
theorem ok_orNone {f fR C : Addr} {fd fdR : FuncData} (F : Fun K "ratio_or_none" "ratio_or_none" s_ratio_or_none f fd) (GR : FnOk P w K mg base CX0 5 fR fdR ["text"] (spReadR K)) (mR : mg "read_ratio" = some (.ref fR)) (kR : PySem.W.keepIn K (.ref fR) = true) (bR : Binds K fdR ["text"] [])
    (gP : mg "InvalidRatio" = some (.ref C)) : FnOk P w K mg base CX0 6 f fd ["text"] (spReadR K) := by
  refine F.ok scOrNone (fun vs H Q E h => ?_) (fun cdv A outer s H vs Q E hr h => ?_)
  · obtain ⟨z, t, b, rfl, _⟩ := h
    rfl
  · obtain ⟨z, t, b, rfl, isR, t60, b60, hz, q⟩ := h
    refine ⟨_, pss_one (ps_try_only rfl rfl ⟨rfl, by decide, .inl gP⟩ takes0 (fun W pn xe tk _ => pss_one (ps_ret (pe_call GR hr (by rfl) mR kR bR .nil pass0 (pa_cons (pv 0) pa_nil)))) (fun a oe cls d pn _ _ => pss_false)), ?_⟩
    exact ⟨_, rfl, z, t, b, rfl, isR, t60, b60, hz, q⟩
/-! ### lengths, factors, items -/
theorem scIsLen : FnScope ["value"] ["value"] (defScope s_is_length) := ⟨rfl, rfl, rfl, by decide +kernel, rfl, by decide +kernel, by decide +kernel⟩
theorem scIsScale : FnScope ["value"] ["value"] (defScope s_is_scale) := ⟨rfl, rfl, rfl, by decide +kernel, rfl, by decide +kernel, by decide +kernel⟩
def spIsLen (K : PySem.W.Frag) : Sp := fun vs H Q _ => ∃ (x : V) (d : PyData), vs = [x] ∧ Dp K H x d ∧ okR d = true ∧ ∀ H', Same H H' → Q (.bl (decide (0 ≤ (ratD d).1))) H'
def spIsScale (K : PySem.W.Frag) : Sp := fun vs H Q _ => ∃ (x : V) (d : PyData), vs = [x] ∧ Dp K H x d ∧ okR d = true ∧ ∀ H', Same H H' → Q (.bl (decide (0 < (ratD d).1))) H'
theorem ok_isLen {f fC fT : Addr} {fd fdC fdT : FuncData} (F : Fun K "is_length" "is_length" s_is_length f fd) (GC : FnOk P w K mg base CX0 3 fC fdC ["value"] (spCan K)) (mC : mg "can_be_ratio" = some (.ref fC)) (kC : PySem.W.keepIn K (.ref fC) = true) (bC : Binds K fdC ["value"] [])
    (GT : FnOk P w K mg base CX0 3 fT fdT ["value"] (spRat K)) (mT : mg "ratio_of" = some (.ref fT)) (kT : PySem.W.keepIn K (.ref fT) = true) (bT : Binds K fdT ["value"] []) : FnOk P w K mg base CX0 4 f fd ["value"] (spIsLen K) := by
  refine F.ok scIsLen (fun vs H Q E h => ?_) (fun cdv A outer s H vs Q E hr h => ?_)
  · obtain ⟨x, d, rfl, _⟩ := h
    rfl
  · obtain ⟨x, d, rfl, hx, ok, q⟩ := h
    refine ⟨_, pss_one (ps_ret (pe_and (pe_call GC hr (by rfl) mC kC bC .nil pass0 (pa_cons (pv 0) pa_nil)) (pe_one (pe_cmpR op_ge (pe_ix ix_tup (pe_call GT hr (by rfl) mT kT bT .nil pass0 (pa_cons (pv 0) pa_nil)) pe_int fun _ _ => rfl) pe_int (nomark _))))), ?_⟩
    refine ⟨_, rfl, x, d, rfl, hx, _, rfl, ?_⟩
    rw [ok]
    exact iteT ⟨_, rfl, x, d, rfl, hx, ok, fun T H' sm hT => ⟨_, _, _, _, rfl, rfl, hT, atI_nat (j := 0) rfl, _, _, rfl, rfl, q H' sm⟩⟩
theorem ok_isScale {f fC fT : Addr} {fd fdC fdT : FuncData} (F : Fun K "is_scale" "is_scale" s_is_scale f fd) (GC : FnOk P w K mg base CX0 3 fC fdC ["value"] (spCan K)) (mC : mg "can_be_ratio" = some (.ref fC)) (kC : PySem.W.keepIn K (.ref fC) = true) (bC : Binds K fdC ["value"] [])
    (GT : FnOk P w K mg base CX0 3 fT fdT ["value"] (spRat K)) (mT : mg "ratio_of" = some (.ref fT)) (kT : PySem.W.keepIn K (.ref fT) = true) (bT : Binds K fdT ["value"] []) : FnOk P w K mg base CX0 4 f fd ["value"] (spIsScale K) := by
  refine F.ok scIsScale (fun vs H Q E h => ?_) (fun cdv A outer s H vs Q E hr h => ?_)
  · obtain ⟨x, d, rfl, _⟩ := h
    rfl
  · obtain ⟨x, d, rfl, hx, ok, q⟩ := h
    refine ⟨_, pss_one (ps_ret (pe_and (pe_call GC hr (by rfl) mC kC bC .nil pass0 (pa_cons (pv 0) pa_nil)) (pe_one (pe_cmpR op_gt (pe_ix ix_tup (pe_call GT hr (by rfl) mT kT bT .nil pass0 (pa_cons (pv 0) pa_nil)) pe_int fun _ _ => rfl) pe_int (nomark _))))), ?_⟩
    refine ⟨_, rfl, x, d, rfl, hx, _, rfl, ?_⟩
    rw [ok]
    exact iteT ⟨_, rfl, x, d, rfl, hx, ok, fun T H' sm hT => ⟨_, _, _, _, rfl, rfl, hT, atI_nat (j := 0) rfl, _, _, rfl, rfl, q H' sm⟩⟩
theorem scItem : FnScope ["kind", "value", "layers"] ["kind", "value", "layers"] (defScope s_is_item) := ⟨rfl, rfl, rfl, by decide +kernel, rfl, by decide +kernel, by decide +kernel⟩
/-- is_item of what stands for the kind -/
def spItem (K : PySem.W.Frag) : Sp := fun vs H Q _ => ∃ (kd : Str) (x : V) (d : PyData), vs = [.str kd, x, .int 2] ∧ Dp K H x d ∧ KindOk kd d ∧ ∀ H', Same H H' → Q (.bl true) H'
theorem lay_true {z : Str} (h : layB z) : layD 2 (.str z) = true := by
  rcases h with rfl | rfl <;> decide +kernel
theorem lay_sm {z : Str} (h : layB z) : Sm (.str z) := (smk_str (m := 4) ((by rcases h with rfl | rfl <;> decide +kernel)) (by rcases h with rfl | rfl <;> decide +kernel)).Sm
theorem ok_item {f fY fL fS fN : Addr} {fd fdY fdL fdS fdN : FuncData} (F : FunD K "is_item" "is_item" (defArgs s_is_item) (defBody s_is_item) (defScope s_is_item) [.int 2] [] f fd)
    (GY : FnOk P w K mg base CX0 1 fY fdY ["value", "layers"] (spLayer K)) (mY : mg "is_layer" = some (.ref fY)) (kY : PySem.W.keepIn K (.ref fY) = true) (bY : Binds K fdY ["value", "layers"] [])
    (GL : FnOk P w K mg base CX0 4 fL fdL ["value"] (spIsLen K)) (mL : mg "is_length" = some (.ref fL)) (kL : PySem.W.keepIn K (.ref fL) = true) (bL : Binds K fdL ["value"] [])
    (GS : FnOk P w K mg base CX0 4 fS fdS ["value"] (spIsScale K)) (mS : mg "is_scale" = some (.ref fS)) (kS : PySem.W.keepIn K (.ref fS) = true) (bS : Binds K fdS ["value"] [])
    (GN : FnOk P w K mg base CX0 2 fN fdN ["value"] spName) (mN : mg "is_name" = some (.ref fN)) (kN : PySem.W.keepIn K (.ref fN) = true) (bN : Binds K fdN ["value"] []) :
    FnOk P w K mg base CX0 5 f fd ["kind", "value", "layers"] (spItem K) := by
  refine F.ok scItem (fun vs H Q E h => ?_) (fun cdv A outer s H vs Q E hr h => ?_)
  · obtain ⟨kd, x, d, rfl, _⟩ := h
    rfl
  · obtain ⟨kd, x, d, rfl, hx, hk, k⟩ := h
    have hr1 : Room 1 _ := hr.mono (by decide)
    have hr2 : Room 2 _ := hr.mono (by decide)
    refine ⟨_, pss_cons (ps_if (pt_cmpR op_eq (pv 0) pe_str (nomark _)) (pss_one (ps_ret (pe_call GY hr1 (by rfl) mY kY bY .nil pass0 (pa_cons (pv 1) (pa_cons (pv 2) pa_nil))))) pss_nil)
      (pss_cons (ps_if (pt_cmpR op_eq (pv 0) pe_str (nomark _)) (pss_one (ps_ret (pe_call GL hr (by rfl) mL kL bL .nil pass0 (pa_cons (pv 1) pa_nil)))) pss_nil)
      (pss_cons (ps_if (pt_cmpR op_eq (pv 0) pe_str (nomark _)) (pss_one (ps_ret (pe_call GS hr (by rfl) mS kS bS .nil pass0 (pa_cons (pv 1) pa_nil)))) pss_nil)
      (pss_cons (ps_if (pt_cmpR op_eq (pv 0) pe_str (nomark _)) pss_false pss_nil)
      (pss_cons (ps_if (pt_cmpR op_eq (pv 0) pe_str (nomark _)) pss_false pss_nil)
      (pss_one (ps_ret (pe_call GN hr2 (by rfl) mN kN bN .nil pass0 (pa_cons (pv 1) pa_nil)))))))), ?_⟩
    have no : ∀ {a b : Str} {S : Prop} {T : Prop}, a ≠ b → T → (if decide (V.str a = V.str b) = true then S else T) := fun {a b S T} n t => by
      rw [str_cmp, decide_eq_false n]
      exact iteF t
    have yes : ∀ {a : Str} {S : Prop} {T : Prop}, S → (if decide (V.str a = V.str a) = true then S else T) := fun {a S T} t => by
      rw [decide_eq_true rfl]
      exact iteT t
    cases hk with
    | layer h => exact ⟨_, rfl, rfl, _, rfl, yes ⟨_, rfl, _, rfl, x, _, 2, rfl, .inr rfl, hx, lay_sm h, fun H' s => by rw [lay_true h]; exact k H' s⟩⟩
    | length h =>
      refine ⟨_, rfl, rfl, _, rfl, no (by decide +kernel) ⟨_, rfl, rfl, _, rfl, yes ⟨_, rfl, x, d, rfl, hx, h.1, fun H' s => ?_⟩⟩⟩
      rw [decide_eq_true h.2.1]
      exact k H' s
    | scale h g =>
      refine ⟨_, rfl, rfl, _, rfl, no (by decide +kernel) ⟨_, rfl, rfl, _, rfl, no (by decide +kernel) ⟨_, rfl, rfl, _, rfl, yes ⟨_, rfl, x, d, rfl, hx, h.1, fun H' s => ?_⟩⟩⟩⟩
      rw [decide_eq_true g]
      exact k H' s
    | name h =>
      cases hx
      refine ⟨_, rfl, rfl, _, rfl, no (by decide +kernel) ⟨_, rfl, rfl, _, rfl, no (by decide +kernel) ⟨_, rfl, rfl, _, rfl, no (by decide +kernel) ⟨_, rfl, rfl, _, rfl, no (by decide +kernel) ⟨_, rfl, rfl, _, rfl, no (by decide +kernel) ⟨_, rfl, _, rfl, Nat.le_trans h.2 (by decide), ?_⟩⟩⟩⟩⟩⟩
      rw [h.1]
      exact k H (Same.refl H)
    | new h =>
      cases hx
      refine ⟨_, rfl, rfl, _, rfl, no (by decide +kernel) ⟨_, rfl, rfl, _, rfl, no (by decide +kernel) ⟨_, rfl, rfl, _, rfl, no (by decide +kernel) ⟨_, rfl, rfl, _, rfl, no (by decide +kernel) ⟨_, rfl, rfl, _, rfl, no (by decide +kernel) ⟨_, rfl, _, rfl, Nat.le_trans h.2 (by decide), ?_⟩⟩⟩⟩⟩⟩
      rw [h.1]
      exact k H (Same.refl H)
end
end Lw

set_option maxRecDepth 100000
set_option linter.unusedVariables false
namespace Lw
open PySem PySem.Spec PyProof.Rows L2 VG
open TL (numL)
/-! ### steps, their words, and the same with pairs for numbers -/
def SHL : List (Str × List Str) := [("road", ["layer", "name", "name", "length"]), ("ride", ["layer", "name", "name", "length"]), ("place", ["new", "name", "length", "length"]), ("same", ["name", "name"]), ("forget", ["name"]), ("cap", ["layer", "length"]), ("scale", ["layer", "scale"]), ("turn", []), ("round", ["layer"])]
def askK : List Str := ["layer", "name", "name", "length"]
def pItem : PyData → PyData
  | .str z => .str z
  | d => .tuple [.int (ratD d).1, .int (ratD d).2]
def TLeaf (d : PyData) (ws : List Str) (p : PyData) : Prop := ∃ (u : Str) (ks : List Str) (items : List PyData), (u, ks) ∈ SHL ∧ d = .tuple (.str u :: items) ∧ ws = u :: items.map txtD ∧ p = .tuple (.str u :: items.map pItem) ∧ Paired KindOk ks items ∧
  (u = "same" → ∃ y z : Str, items = [.str y, .str z] ∧ y ≠ z)
def TIf (R : List PyData → List Str → List PyData → Prop) (d : PyData) (ws : List Str) (p : PyData) : Prop := ∃ (as d1 d2 : List PyData) (w1 w2 : List Str) (p1 p2 : List PyData), Paired KindOk askK as ∧ d = .tuple (.str "if" :: (as ++ [.tuple d1, .tuple d2])) ∧
  p = .tuple (.str "if" :: (as.map pItem ++ [.tuple p1, .tuple p2])) ∧ R d1 w1 p1 ∧ R d2 w2 p2 ∧
  ws = ("if" : Str) :: (as.map txtD ++ (("(" : Str) :: (w1 ++ ((")" : Str) :: ("else" : Str) :: ("(" : Str) :: (w2 ++ [(")" : Str)])))))
def TRep (R : List PyData → List Str → List PyData → Prop) (d : PyData) (ws : List Str) (p : PyData) : Prop := ∃ (k : Int) (d1 : List PyData) (w1 : List Str) (p1 : List PyData), d = .tuple [.str "repeat", .int k, .tuple d1] ∧ p = .tuple [.str "repeat", .int k, .tuple p1] ∧ 1 ≤ k ∧ k ≤ 3 ∧ R d1 w1 p1 ∧
  ws = ("repeat" : Str) :: txtD (.int k) :: ("(" : Str) :: (w1 ++ [(")" : Str)])
def TS (R : List PyData → List Str → List PyData → Prop) (d : PyData) (ws : List Str) (p : PyData) : Prop := TLeaf d ws p ∨ TIf R d ws p ∨ TRep R d ws p
def LT (m : Nat) (R : PyData → List Str → PyData → Prop) (ds : List PyData) (ws : List Str) (ps : List PyData) : Prop := ds.length ≤ m ∧ ∃ qs : List (List Str × PyData), Paired (fun d q => R d q.1 q.2) ds qs ∧ ws = sepJ (qs.map Prod.fst) ∧ ps = qs.map Prod.snd
def TW : Nat → PyData → List Str → PyData → Prop
  | 0 => TS fun _ _ _ => False
  | n + 1 => TS (LT 2 (TW n))
theorem nm_wd {z : Str} (h : nmB z) : wdB z := by
  refine ⟨by have := h.2; omega, ?_⟩
  have h := h.1
  unfold nameB at h
  simp only [Bool.and_eq_true, decide_eq_true_eq] at h
  have ha := h.2.1
  have e0 : PyData.strOk z = z.cps.toList.all (fun c => decide (c < 0x110000)) := by simp [PyData.strOk]
  rw [e0]
  have e : Txt.isascii z = z.cps.toList.all (fun c => decide (c < 128)) := by simp [Txt.isascii]
  rw [e] at ha
  rw [List.all_eq_true] at ha ⊢
  intro c hc
  have := of_decide_eq_true (ha c hc)
  exact decide_eq_true (by omega)
theorem LenD.atom {d : PyData} (h : LenD d) : Atom d := .inr h
theorem kind_atom {k : Str} {d : PyData} (h : KindOk k d) : Atom d := by
  cases h with
  | layer h =>
    rcases h with rfl | rfl
    · exact atom_str wd_of
    · exact atom_str wd_of
  | name h => exact atom_str (nm_wd h)
  | new h => exact atom_str (nm_wd h)
  | length h => exact h.atom
  | scale h g => exact h.atom
theorem pair_form {d : PyData} (h : okR d = true) : pItem d = .tuple [.int (ratD d).1, .int (ratD d).2] := by
  cases d <;> first | rfl | cases h
theorem pair_len {d : PyData} (h : LenD d) : LenD (pItem d) ∧ txtD (pItem d) = txtD d ∧ ratD (pItem d) = ratD d := by
  obtain ⟨h1, h2, h3, h4⟩ := h
  have e := pair_form h1
  have er : ratD (pItem d) = ratD d := by
    rw [e]
    rfl
  have ok : okR (pItem d) = true := by
    unfold okR at h1
    cases w : whole d with
    | true =>
      obtain ⟨i, rfl⟩ := whole_int w
      rw [e]
      have g : Nat.gcd i.natAbs (1 : Int).natAbs = 1 := Nat.gcd_one_right _
      show (false || (true && (true && (decide ((1 : Int) ≤ 1) && decide (Nat.gcd i.natAbs (1 : Int).natAbs = 1))))) = true
      rw [decide_eq_true g]
      rfl
    | false =>
      rw [w] at h1
      obtain ⟨t, b, rfl, _⟩ := isRat_form (by simpa using h1)
      rw [e]
      show okR (.tuple [.int t, .int b]) = true
      unfold okR
      rw [show isRat (.tuple [.int t, .int b]) = true by simpa using h1, Bool.or_true]
  refine ⟨⟨ok, by rw [er]; exact h2, by rw [er]; exact h3, by rw [er]; exact h4⟩, ?_, er⟩
  rw [txt_num ok, txt_num h1, er]
theorem pair_kind {k : Str} {d : PyData} (h : KindOk k d) : KindOk k (pItem d) ∧ txtD (pItem d) = txtD d := by
  cases h with
  | layer h => exact ⟨.layer h, rfl⟩
  | name h => exact ⟨.name h, rfl⟩
  | new h => exact ⟨.new h, rfl⟩
  | length h => exact ⟨.length (pair_len h).1, (pair_len h).2.1⟩
  | scale h g => exact ⟨.scale (pair_len h).1 (by rw [(pair_len h).2.2]; exact g), (pair_len h).2.1⟩
theorem pair_kinds {ks : List Str} {as : List PyData} (h : Paired KindOk ks as) : Paired KindOk ks (as.map pItem) ∧ (as.map pItem).map txtD = as.map txtD := by
  induction h with
  | nil => exact ⟨.nil, rfl⟩
  | cons a t ih =>
    obtain ⟨b, c⟩ := pair_kind a
    exact ⟨.cons b ih.1, by rw [List.map_cons, List.map_cons, List.map_cons, c, ih.2]⟩
theorem kinds_atoms {ks : List Str} {as : List PyData} (h : Paired KindOk ks as) : ∀ e ∈ as, Atom e := fun e he => by
  obtain ⟨k, _, hk⟩ := paired_mem2 h he
  exact kind_atom hk
theorem shl_words : ∀ s ∈ SHL, (s.1.length ≤ 12 ∧ PyData.strOk s.1 = true) ∧ s.1 ≠ "if" ∧ s.1 ≠ "repeat" ∧ s.2.length ≤ 4 := by decide +kernel
theorem ts_st {R : List PyData → List Str → List PyData → Prop} {R' : List PyData → List Str → Prop} (hR : ∀ ds ws ps, R ds ws ps → R' ds ws ∧ R' ps ws) {d : PyData} {ws : List Str} {p : PyData} (h : TS R d ws p) : StW R' d ws ∧ StW R' p ws := by
  rcases h with ⟨u, ks, items, hm, rfl, rfl, rfl, hk, _⟩ | ⟨as, d1, d2, w1, w2, p1, p2, hk, rfl, rfl, r1, r2, rfl⟩ | ⟨k, d1, w1, p1, rfl, rfl, k1, k3, r1, rfl⟩
  · obtain ⟨a, b, c, l⟩ := shl_words _ hm
    have l : ks.length ≤ 4 := l
    obtain ⟨k2, e2⟩ := pair_kinds hk
    have l1 := paired_len2 hk
    refine ⟨.inl ⟨u, items, rfl, rfl, a, b, c, by omega, kinds_atoms hk⟩, .inl ⟨u, _, rfl, by rw [e2], a, b, c, by rw [List.length_map]; omega, kinds_atoms k2⟩⟩
  · obtain ⟨k2, e2⟩ := pair_kinds hk
    have l1 := paired_len2 hk
    exact ⟨.inr (.inl ⟨as, d1, d2, w1, w2, l1.symm, rfl, kinds_atoms hk, (hR _ _ _ r1).1, (hR _ _ _ r2).1, rfl⟩), .inr (.inl ⟨_, p1, p2, w1, w2, by rw [List.length_map]; exact l1.symm, rfl, kinds_atoms k2, (hR _ _ _ r1).2, (hR _ _ _ r2).2, by rw [e2]⟩)⟩
  · exact ⟨.inr (.inr ⟨k, d1, w1, rfl, by omega, by omega, (hR _ _ _ r1).1, rfl⟩), .inr (.inr ⟨k, p1, w1, rfl, by omega, by omega, (hR _ _ _ r1).2, rfl⟩)⟩
theorem lt_lw {m : Nat} {R : PyData → List Str → PyData → Prop} {R' : PyData → List Str → Prop} (hR : ∀ d ws p, R d ws p → R' d ws ∧ R' p ws) {ds : List PyData} {ws : List Str} {ps : List PyData} (h : LT m R ds ws ps) : LW m R' ds ws ∧ LW m R' ps ws := by
  obtain ⟨l, qs, pa, rfl, rfl⟩ := h
  have e := paired_len2 pa
  refine ⟨⟨l, _, ?_, rfl⟩, by rw [List.length_map]; omega, _, ?_, rfl⟩
  · clear l e
    induction pa with
    | nil => exact .nil
    | cons a t ih => exact .cons (hR _ _ _ a).1 ih
  · clear l e
    induction pa with
    | nil => exact .nil
    | cons a t ih => exact .cons (hR _ _ _ a).2 ih
theorem tw_sw : ∀ (n : Nat) {d : PyData} {ws : List Str} {p : PyData}, TW n d ws p → SW n d ws ∧ SW n p ws
  | 0, d, ws, p, h => ts_st (fun _ _ _ z => z.elim) h
  | n + 1, d, ws, p, h => ts_st (R := LT 2 (TW n)) (R' := LW 2 (SW n)) (fun ds ws ps z => lt_lw (R := TW n) (R' := SW n) (fun d ws p z => tw_sw n z) z) h
theorem ts_mono {R R' : List PyData → List Str → List PyData → Prop} (h : ∀ ds ws ps, R ds ws ps → R' ds ws ps) {d : PyData} {ws : List Str} {p : PyData} : TS R d ws p → TS R' d ws p := by
  rintro (z | ⟨as, d1, d2, w1, w2, p1, p2, hk, e, e', r1, r2, e2⟩ | ⟨k, d1, w1, p1, e, e', k0, k9, r1, e2⟩)
  · exact .inl z
  · exact .inr (.inl ⟨as, d1, d2, w1, w2, p1, p2, hk, e, e', h _ _ _ r1, h _ _ _ r2, e2⟩)
  · exact .inr (.inr ⟨k, d1, w1, p1, e, e', k0, k9, h _ _ _ r1, e2⟩)
theorem lt_mono {R R' : PyData → List Str → PyData → Prop} {m m' : Nat} (hm : m ≤ m') (h : ∀ d ws p, R d ws p → R' d ws p) {ds : List PyData} {ws : List Str} {ps : List PyData} (z : LT m R ds ws ps) : LT m' R' ds ws ps := by
  obtain ⟨l, qs, pa, e⟩ := z
  exact ⟨Nat.le_trans l hm, qs, L2.Paired.mapP pa fun _ _ z => h _ _ _ z, e⟩
theorem tw_up : ∀ (n : Nat) {d : PyData} {ws : List Str} {p : PyData}, TW n d ws p → TW (n + 1) d ws p
  | 0, d, ws, p, h => ts_mono (fun _ _ _ z => z.elim) h
  | n + 1, d, ws, p, h => ts_mono (fun ds ws ps z => lt_mono (Nat.le_refl _) (fun _ _ _ z => tw_up n z) z) h
/-- pairs are small -/
theorem pair_smk {k : Str} {d : PyData} (h : KindOk k d) : Smk 1 12 (pItem d) := by
  rcases kind_atom h with ⟨z, rfl, h1, h2⟩ | ⟨h1, h2, h3, h4⟩
  · exact (smk_str (m := 12) h2 h1).up (by decide) (Nat.le_refl _)
  · rw [pair_form h1]
    have hp := okR_pos h1
    have q : (1000001 : Nat) ≤ 10 ^ 90 := by decide
    refine (smk_tup (k := 0) (m := 0) (n := 2) (ds := [.int (ratD d).1, .int (ratD d).2]) (List.forall_mem_cons.mpr ⟨smk_int (Nat.lt_of_lt_of_le (by omega) q), List.forall_mem_cons.mpr ⟨smk_int (Nat.lt_of_lt_of_le (by omega) q), fun _ h => by cases h⟩⟩) (by simp)).up (by decide) (by decide)
def skD (k m : Nat) : Nat × Nat := (k + 2, 7 * (2 * (m + 1) + 15))
theorem pairs_smk {ks : List Str} {as : List PyData} (h : Paired KindOk ks as) : ∀ e ∈ as.map pItem, Smk 1 12 e := fun e he => by
  obtain ⟨d, hd, rfl⟩ := List.mem_map.mp he
  obtain ⟨k, _, hk⟩ := paired_mem2 h hd
  exact pair_smk hk
theorem ts_smk {R : List PyData → List Str → List PyData → Prop} {k m : Nat} (hR : ∀ ds ws ps, R ds ws ps → ps.length ≤ 2 ∧ ∀ e ∈ ps, Smk k m e) {d : PyData} {ws : List Str} {p : PyData} (h : TS R d ws p) : Smk (k + 2) (7 * (2 * (m + 1) + 15)) p := by
  have hs : ∀ {z : Str}, wdB z → Smk (k + 1) (2 * (m + 1) + 14) (.str z) := fun h => (smk_str (m := 12) h.2 h.1).up (by omega) (by omega)
  have part : ∀ {ds : List PyData} {ws : List Str} {ps : List PyData}, R ds ws ps → Smk (k + 1) (2 * (m + 1) + 14) (.tuple ps) := fun r => by
    obtain ⟨l, a⟩ := hR _ _ _ r
    exact (smk_tup (n := 2) a l).up (Nat.le_refl _) (by omega)
  rcases h with ⟨u, ks, items, hm, rfl, rfl, rfl, hk, _⟩ | ⟨as, d1, d2, w1, w2, p1, p2, hk, rfl, rfl, r1, r2, rfl⟩ | ⟨j, d1, w1, p1, rfl, rfl, k1, k3, r1, rfl⟩
  · obtain ⟨a, b, c, l⟩ := shl_words _ hm
    have l : ks.length ≤ 4 := l
    have l1 := paired_len2 hk
    refine (smk_tup (k := k + 1) (m := 2 * (m + 1) + 14) (n := 7) (fun e he => ?_) (by rw [List.length_cons, List.length_map]; omega)).up (Nat.le_refl _) (by omega)
    rcases List.mem_cons.mp he with rfl | he
    · exact hs a
    · exact (pairs_smk hk e he).up (by omega) (by omega)
  · have l1 : askK.length = as.length := paired_len2 hk
    have l4 : as.length = 4 := l1.symm
    refine (smk_tup (k := k + 1) (m := 2 * (m + 1) + 14) (n := 7) (fun e he => ?_) (by simp; omega)).up (Nat.le_refl _) (by omega)
    rcases List.mem_cons.mp he with rfl | he
    · exact hs wd_of
    rcases List.mem_append.mp he with he | he
    · exact (pairs_smk hk e he).up (by omega) (by omega)
    rcases List.mem_cons.mp he with rfl | he
    · exact part r1
    · rw [List.mem_singleton.mp he]
      exact part r2
  · refine (smk_tup (k := k + 1) (m := 2 * (m + 1) + 14) (n := 7) (fun e he => ?_) (by simp)).up (Nat.le_refl _) (by omega)
    rcases List.mem_cons.mp he with rfl | he
    · exact hs wd_of
    rcases List.mem_cons.mp he with rfl | he
    · have q : (10 : Nat) ≤ 10 ^ 90 := by decide
      exact (smk_int (Nat.lt_of_lt_of_le (by omega) q)).up (by omega) (by omega)
    · rw [List.mem_singleton.mp he]
      exact part r1
def smN : Nat → Nat × Nat
  | 0 => (2, 7 * 17)
  | n + 1 => ((smN n).1 + 2, 7 * (2 * ((smN n).2 + 1) + 15))
theorem tw_smk : ∀ (n : Nat) {d : PyData} {ws : List Str} {p : PyData}, TW n d ws p → Smk (smN n).1 (smN n).2 p
  | 0, d, ws, p, h => ts_smk (k := 0) (m := 0) (fun _ _ _ z => z.elim) h
  | n + 1, d, ws, p, h => ts_smk (fun ds ws ps z => by
    obtain ⟨l, qs, pa, _, rfl⟩ := z
    have e := paired_len2 pa
    refine ⟨by rw [List.length_map]; omega, fun e he => ?_⟩
    obtain ⟨q, hq, rfl⟩ := List.mem_map.mp he
    obtain ⟨d, _, hd⟩ := paired_mem2 pa hq
    exact tw_smk n hd) h
end Lw

set_option maxRecDepth 100000
set_option linter.unusedVariables false
namespace Lw
open PySem PySem.Spec PyProof.Rows L2 VG
open TL (numL)
/-! ### the reader -/
def clsBody : Stmt → List Stmt
  | .ClassDef (body := b) .. => b
  | _ => []
def rM (i : Nat) : Stmt := (clsBody s_Reader).getD i (.Pass ⟨0, 0, 0, 0⟩)
abbrev rInit : Stmt := rM 0
abbrev rAll : Stmt := rM 1
abbrev rWord : Stmt := rM 2
abbrev rPass : Stmt := rM 3
abbrev rList : Stmt := rM 4
abbrev rStep : Stmt := rM 5
abbrev rIf : Stmt := rM 6
abbrev rRep : Stmt := rM 7
abbrev rPart : Stmt := rM 8
abbrev rItem : Stmt := rM 9
def rF (L : Addr) (i o : Int) : List (Str × V) := [("_words", .ref L), ("_at", .int i), ("_opened", .int o)]
theorem kwa : ("_words" : Str) ≠ "_at" := by decide +kernel
theorem kwo : ("_words" : Str) ≠ "_opened" := by decide +kernel
theorem kao : ("_at" : Str) ≠ "_opened" := by decide +kernel
theorem put_at {L : Addr} {i o j : Int} : putF "_at" (.int j) (rF L i o) = rF L j o := by
  unfold rF
  rw [putF, if_neg kwa, putF, if_pos rfl]
theorem put_op {L : Addr} {i o j : Int} : putF "_opened" (.int j) (rF L i o) = rF L i j := by
  unfold rF
  rw [putF, if_neg kwo, putF, if_neg kao, putF, if_pos rfl]
theorem put_two {L : Addr} : putF "_at" (.int 0) (putF "_words" (.ref L) []) = ([("_words", .ref L), ("_at", .int 0)] : List (Str × V)) := by
  rw [putF, putF, if_neg kwa, putF]
theorem put_all {L : Addr} : putF "_opened" (.int 0) (putF "_at" (.int 0) (putF "_words" (.ref L) [])) = rF L 0 0 := by
  unfold rF
  rw [put_two, putF, if_neg kwo, putF, if_neg kao, putF]
theorem rF_get {L : Addr} {i o : Int} : (rF L i o).lookup ("_words" : Str) = some (.ref L) ∧ (rF L i o).lookup ("_at" : Str) = some (.int i) ∧ (rF L i o).lookup ("_opened" : Str) = some (.int o) := by
  have e1 : (("_at" : Str) == "_words") = false := by decide +kernel
  have e2 : (("_opened" : Str) == "_words") = false := by decide +kernel
  have e3 : (("_opened" : Str) == "_at") = false := by decide +kernel
  refine ⟨?_, ?_, ?_⟩
  · simp [rF]
  · simp [rF, List.lookup, e1]
  · simp [rF, List.lookup, e2, e3]
theorem rF_no {L : Addr} {i o : Int} {f : Str} (h : (f == ("_words" : Str)) = false ∧ (f == ("_at" : Str)) = false ∧ (f == ("_opened" : Str)) = false := by decide +kernel) : (rF L i o).lookup f = none := by
  simp [rF, List.lookup, h.1, h.2.1, h.2.2]
structure TxR (K : PySem.W.Frag) (C : Addr) : Prop where
  cl : Cls K C
  nW : NoAttr K C "_words"
  nA : NoAttr K C "_at"
  nO : NoAttr K C "_opened"
/-- a reader at p: its words, how far it is, how many brackets stand open -/
structure RdAt (C : Addr) (H : Hp) (p L : Addr) (W : List Str) (i o : Int) : Prop where
  ins : ∃ dx, H p = some (.ins C dx (rF L i o))
  ws : H L = some (.lst (tVs W))
theorem RdAt.ne {C : Addr} {H : Hp} {p L : Addr} {W : List Str} {i o : Int} (h : RdAt C H p L W i o) : L ≠ p := fun z => by
  obtain ⟨dx, e⟩ := h.ins
  have := h.ws
  rw [z, e] at this
  cases this
theorem RdAt.same {C : Addr} {H H' : Hp} {p L : Addr} {W : List Str} {i o : Int} (h : RdAt C H p L W i o) (s : Same H H') : RdAt C H' p L W i o := by
  obtain ⟨dx, e⟩ := h.ins
  exact ⟨⟨dx, s _ _ e⟩, s _ _ h.ws⟩
theorem RdAt.out {C : Addr} {H : Hp} {p L D : Addr} {W : List Str} {i o : Int} (h : RdAt C H p L W i o) (hD : H D = none) : D ≠ p ∧ D ≠ L := by
  obtain ⟨dx, e⟩ := h.ins
  refine ⟨fun z => ?_, fun z => ?_⟩
  · rw [z, e] at hD
    cases hD
  · rw [z, h.ws] at hD
    cases hD
/-- what it goes on to -/
theorem RdAt.go {C : Addr} {H : Hp} {p L dx : Addr} {W : List Str} {i o j k : Int} (h : RdAt C H p L W i o) : RdAt C (upd H p (.ins C dx (rF L j k))) p L W j k := ⟨⟨dx, upd_same⟩, by rw [upd_ne h.ne]; exact h.ws⟩
theorem exs_p {p : Addr} {H : Hp} {o : HO} : Exs [p] H (upd H p o) := Exs.upd List.mem_cons_self
def wAt (W : List Str) (i : Nat) : Str := W.getD i ""
section
variable {P : Program} {w : World} {K : PySem.W.Frag} {mg : Str → Option Value} {base : Heap}

variable {C : Addr}
theorem scRInit : FnScope ["self", "words"] ["self", "words"] (defScope rInit) := ⟨rfl, rfl, rfl, by decide +kernel, rfl, by decide +kernel, by decide +kernel⟩
def spRInit (K : PySem.W.Frag) (C : Addr) : Sp := fun vs H Q _ => ∃ (p dx A : Addr) (W : List Str), vs = [.ref p, .ref A] ∧ H p = some (.ins C dx []) ∧ SqL K H A (tVs W) ∧
  ∀ (L : Addr) (H' : Hp), RdAt C H' p L W 0 0 → H L = none → (∀ b o, b ≠ p → H b = some o → H' b = some o) → Q .non H'
theorem ok_rInit {f : Addr} {fd : FuncData} (F : Fun K "__init__" "Reader.__init__" rInit f fd) (T : TxR K C) (li : mg "list" = none) : FnOk P w K mg base CX0 1 f fd ["self", "words"] (spRInit K C) := by
  refine F.ok scRInit (fun vs H Q E h => ?_) (fun cdv A outer s H vs Q E hr h => ?_)
  · obtain ⟨p, dx, L0, W, rfl, _⟩ := h
    rfl
  · obtain ⟨p, dx, L0, W, rfl, hp, hL, k⟩ := h
    refine ⟨_, pss_cons (ps_fld (pv 0) (pe_callTy call_list_of (by rfl) li (by decide +kernel) (pa_cons (pv 1) pa_nil)) rfl)
      (pss_cons (ps_fld (pv 0) pe_int rfl) (pss_one (ps_fld (pv 0) pe_int rfl))), ?_⟩
    refine ⟨_, rfl, L0, _, rfl, .inl hL, fun L hL0 => ?_⟩
    have ne : L ≠ p := fun z => by rw [z, hp] at hL0; cases hL0
    have hp1 : upd H L (.lst (tVs W)) p = some (.ins C dx []) := by rw [upd_ne ne.symm]; exact hp
    refine ⟨_, rfl, p, C, dx, _, rfl, hp1, T.cl, T.nW, (show 0 < 1000 by decide), ?_⟩
    refine ⟨_, rfl, p, C, dx, _, rfl, upd_same, T.cl, T.nA, (show 1 < 1000 by decide), ?_⟩
    refine ⟨_, rfl, p, C, dx, _, rfl, upd_same, T.cl, T.nO, ?_, ?_⟩
    · rw [put_two]
      show 2 < 1000
      decide
    · rw [put_all]
      refine k L _ ⟨⟨dx, upd_same⟩, ?_⟩ hL0 fun b o n hb => ?_
      · rw [upd_ne ne, upd_ne ne, upd_ne ne, upd_same]
      · have nL : b ≠ L := fun z => by rw [z, hL0] at hb; cases hb
        rw [upd_ne n, upd_ne n, upd_ne n, upd_ne nL]
        exact hb
theorem scRWord : FnScope ["self"] ["self"] (defScope rWord) := ⟨rfl, rfl, rfl, by decide +kernel, rfl, by decide +kernel, by decide +kernel⟩
def spRWord (C : Addr) : Sp := fun vs H Q _ => ∃ (p L : Addr) (W : List Str) (i : Nat) (o : Int), vs = [.ref p] ∧ RdAt C H p L W i o ∧ i ≤ W.length ∧ Q (.str (wAt W i)) H
theorem ok_rWord {f : Addr} {fd : FuncData} (F : Fun K "_word" "Reader._word" rWord f fd) (T : TxR K C) (ln : mg "len" = none) : FnOk P w K mg base CX0 1 f fd ["self"] (spRWord C) := by
  refine F.ok scRWord (fun vs H Q E h => ?_) (fun cdv A outer s H vs Q E hr h => ?_)
  · obtain ⟨p, L, W, i, o, rfl, _⟩ := h
    rfl
  · obtain ⟨p, L, W, i, o, rfl, hR, hi, k⟩ := h
    obtain ⟨dx, hp⟩ := hR.ins
    obtain ⟨g1, g2, g3⟩ := rF_get (L := L) (i := i) (o := o)
    refine ⟨_, pss_cons (ps_if (pt_cmpR op_eq (pe_fld (pv 0) rfl) (pe_callB call_len_seq (by rfl) ln PySem.boot_len (pa_cons (pe_fld (pv 0) rfl) pa_nil)) (nomark _)) (pss_one (ps_ret pe_str)) pss_nil)
      (pss_one (ps_ret (pe_ix ix_list (pe_fld (pv 0) rfl) (pe_fld (pv 0) rfl) (fun _ _ => rfl)))), ?_⟩
    refine ⟨_, rfl, p, C, dx, _, _, rfl, hp, T.cl, T.nA, g2, _, rfl, p, C, dx, _, _, rfl, hp, T.cl, T.nW, g1, L, _, rfl, .inl (SqL.of hR.ws), rfl, _, rfl, ?_⟩
    rw [List.length_map]
    by_cases z : i = W.length
    · rw [decide_eq_true (show V.int (i : Nat) = V.int (W.length : Nat) by rw [z])]
      have e : wAt W i = "" := by
        unfold wAt
        rw [List.getD_eq_getElem?_getD, List.getElem?_eq_none (by omega)]
        rfl
      rw [e] at k
      exact iteT k
    · rw [decide_eq_false (fun q => z (by have := V.int.inj q; omega))]
      have lt : i < W.length := by omega
      refine iteF ⟨_, rfl, p, C, dx, _, _, rfl, hp, T.cl, T.nW, g1, _, rfl, p, C, dx, _, _, rfl, hp, T.cl, T.nA, g2, L, tVs W, i, .str (wAt W i), rfl, rfl, SqL.of hR.ws, atI_nat (j := i) ?_, k⟩
      unfold wAt
      rw [List.getElem?_map, List.getD_eq_getElem?_getD, List.getElem?_eq_getElem lt]
      rfl
theorem scRPass : FnScope ["self", "word"] ["self", "word"] (defScope rPass) := ⟨rfl, rfl, rfl, by decide +kernel, rfl, by decide +kernel, by decide +kernel⟩
def spRPass (C : Addr) : Sp := fun vs H Q _ => ∃ (p L : Addr) (W : List Str) (i : Nat) (o : Int) (z : Str), vs = [.ref p, .str z] ∧ RdAt C H p L W i o ∧ W[i]? = some z ∧
  ∀ H', RdAt C H' p L W ((i + 1 : Nat) : Int) o → Exs [p] H H' → Q .non H'
theorem at_len {W : List Str} {i : Nat} {z : Str} (h : W[i]? = some z) : i < W.length ∧ wAt W i = z := by
  refine ⟨(List.getElem?_eq_some_iff.mp h).1, ?_⟩
  unfold wAt
  rw [List.getD_eq_getElem?_getD, h]
  rfl
theorem ok_rPass {f fW : Addr} {fd fdW : FuncData} (F : Fun K "_pass" "Reader._pass" rPass f fd) (T : TxR K C) (GW : FnOk P w K mg base CX0 1 fW fdW ["self"] (spRWord C)) (MW : Meth K C "_word" fW) (bW : Binds K fdW ["self"] []) :
    FnOk P w K mg base CX0 2 f fd ["self", "word"] (spRPass C) := by
  refine F.ok scRPass (fun vs H Q E h => ?_) (fun cdv A outer s H vs Q E hr h => ?_)
  · obtain ⟨p, L, W, i, o, z, rfl, _⟩ := h
    rfl
  · obtain ⟨p, L, W, i, o, z, rfl, hR, hz, k⟩ := h
    obtain ⟨dx, hp⟩ := hR.ins
    obtain ⟨li, ez⟩ := at_len hz
    obtain ⟨g1, g2, g3⟩ := rF_get (L := L) (i := i) (o := o)
    refine ⟨_, pss_cons (ps_if (pt_cmpR op_ne (pe_meth0 (E := E0) (pv 0) T.cl MW GW hr bW .nil pass0) (pv 1) (nomark _)) pss_false pss_nil) (pss_one (ps_fldaug (pv 0) pe_int in_add)), ?_⟩
    refine ⟨_, rfl, p, dx, _, rfl, hp, rF_no, p, L, W, i, o, rfl, hR, by omega, _, rfl, rfl, _, rfl, ?_⟩
    rw [ez, decide_eq_true (show V.str z = V.str z from rfl)]
    refine iteF ⟨_, rfl, p, C, dx, _, _, rfl, hp, T.cl, T.nA, g2, _, _, rfl, rfl, dx, _, hp, (show 3 < 1000 by decide), ?_⟩
    rw [put_at]
    refine k _ ?_ exs_p
    have e : ((i : Nat) : Int) + 1 = ((i + 1 : Nat) : Int) := by omega
    rw [e]
    exact hR.go
theorem scRItem : FnScope ["self", "kind", "value"] ["self", "kind"] (defScope rItem) := ⟨rfl, rfl, rfl, by decide +kernel, rfl, by decide +kernel, by decide +kernel⟩
/-- the next word is the text of d, which stands for the kind -/
def spRItem (K : PySem.W.Frag) (C : Addr) : Sp := fun vs H Q _ => ∃ (p L : Addr) (W : List Str) (i : Nat) (o : Int) (kd : Str) (d : PyData), vs = [.ref p, .str kd] ∧ RdAt C H p L W i o ∧ W[i]? = some (txtD d) ∧ KindOk kd d ∧
  ∀ (x : V) (H' : Hp), Dp K (wos [p] H') x (pItem d) → RdAt C H' p L W ((i + 1 : Nat) : Int) o → Exs [p] H H' → Q x H'
theorem dp_out {H : Hp} {p T : Addr} {xs : List V} {ds : List PyData} (n : T ≠ p) (hT : SqT K H T xs) (hH : ∃ dx fs, H p = some (.ins C dx fs)) (hd : DpAll K (wos [p] H) xs ds) : Dp K (wos [p] H) (.ref T) (.tuple ds) := by
  refine .tup ?_ hd
  rcases hT with (h | ⟨o, h⟩) | h
  · exact .inl (.inl (by rw [wos_out (fun y => n (List.mem_singleton.mp y))]; exact h))
  · exact .inl (.inr ⟨o, by rw [wos_out (fun y => n (List.mem_singleton.mp y))]; exact h⟩)
  · exact .inr h
theorem kind_in {k : Str} {d : PyData} (h : KindOk k d) : (inV (.str k) [.str "length", .str "scale"] = true ∧ LenD d) ∨ (inV (.str k) [.str "length", .str "scale"] = false ∧ ∃ z, d = .str z) := by
  cases h with
  | layer h => exact .inr ⟨by decide +kernel, _, rfl⟩
  | name h => exact .inr ⟨by decide +kernel, _, rfl⟩
  | new h => exact .inr ⟨by decide +kernel, _, rfl⟩
  | length h => exact .inl ⟨by decide +kernel, h⟩
  | scale h g => exact .inl ⟨by decide +kernel, h⟩
theorem len_reads {d : PyData} (h : LenD d) : IsR (ratD d).1 (ratD d).2 (txtD d).cps.toList ∧ (ratD d).1.natAbs < 10 ^ 60 ∧ (ratD d).2.natAbs < 10 ^ 60 := by
  have ok := h.1
  have hp := okR_pos ok
  have q : (1000001 : Nat) ≤ 10 ^ 60 := by decide
  obtain ⟨_, h2, h3, h4⟩ := h
  refine ⟨⟨hp, ?_, ?_⟩, Nat.lt_of_lt_of_le (by omega) q, Nat.lt_of_lt_of_le (by omega) q⟩
  · have l := pair_len ⟨ok, h2, h3, h4⟩
    have o := l.1.1
    rw [pair_form ok] at o
    have o : (false || (true && (true && (decide (1 ≤ (ratD d).2) && decide (Nat.gcd (ratD d).1.natAbs (ratD d).2.natAbs = 1))))) = true := o
    simp only [Bool.and_eq_true, decide_eq_true_eq, true_and, Bool.false_or] at o
    exact o.2
  · rw [txt_num ok]
theorem ok_rItem {f fW fI fN : Addr} {fd fdW fdI fdN : FuncData} {dsI : List Value} (F : Fun K "_item" "Reader._item" rItem f fd) (T : TxR K C) (GW : FnOk P w K mg base CX0 1 fW fdW ["self"] (spRWord C)) (MW : Meth K C "_word" fW) (bW : Binds K fdW ["self"] [])
    (GI : FnOk P w K mg base CX0 5 fI fdI ["kind", "value", "layers"] (spItem K)) (mI : mg "is_item" = some (.ref fI)) (kI : PySem.W.keepIn K (.ref fI) = true) (vI : Vals [.int 2] dsI) (bI : Binds K fdI ["kind", "value", "layers"] dsI)
    (GN : FnOk P w K mg base CX0 6 fN fdN ["text"] (spReadR K)) (mN : mg "ratio_or_none" = some (.ref fN)) (kN : PySem.W.keepIn K (.ref fN) = true) (bN : Binds K fdN ["text"] []) :
    FnOk P w K mg base CX0 7 f fd ["self", "kind"] (spRItem K C) := by
  refine F.ok scRItem (fun vs H Q E h => ?_) (fun cdv A outer s H vs Q E hr h => ?_)
  · obtain ⟨p, L, W, i, o, kd, d, rfl, _⟩ := h
    rfl
  · obtain ⟨p, L, W, i, o, kd, d, rfl, hR, hz, hk, k⟩ := h
    have nd := scRItem.nd
    have hr1 : Room 1 _ := hr.mono (by decide)
    have hr5 : Room 5 _ := hr.mono (by decide)
    obtain ⟨dx, hp⟩ := hR.ins
    obtain ⟨li, ez⟩ := at_len hz
    refine ⟨_, pss_cons (ps_set (i := 2) nd rfl (Or.inl rfl) (pe_meth0 (E := E0) (pv 0) T.cl MW GW hr1 bW .nil pass0))
      (C8.pss_cut (ps_if (pt_cmpR op_in_seq (pv 1) (pe_tup (pa_cons pe_str (pa_cons pe_str pa_nil))) rfl) (pss_one (ps_set (i := 2) nd rfl (Or.inl rfl) (pe_call GN hr (by rfl) mN kN bN .nil pass0 (pa_cons (pv 2) pa_nil)))) pss_nil)
      (pss_cons (ps_if (pt_not (pt_val (pe_call GI hr5 (by rfl) mI kI bI vI pass0 (pa_cons (pv 1) (pa_cons (pv 2) pa_nil))))) pss_false pss_nil)
      (pss_cons (ps_fldaug (pv 0) pe_int in_add) (pss_one (ps_ret (pv 2)))))), ?_⟩
    refine ⟨_, rfl, p, dx, _, rfl, hp, rF_no, p, L, W, i, o, rfl, hR, by omega, ?_⟩
    rw [ez]
    refine ⟨fun σ G => ∃ x, σ = [some (.ref p), some (.str kd), some x] ∧ Dp K (wos [p] G) x (pItem d) ∧ RdAt C G p L W i o ∧ Exs [p] H G, ?_, ?_⟩
    · refine ⟨_, rfl, (show 2 ≤ sizeLine by decide), fun T0 hT0 => ⟨T0, [.str "length", .str "scale"], rfl, .inr (SqT.of upd_same), rfl, rfl, _, rfl, ?_⟩⟩
      have s0 := same_upd (o := .tup [.str "length", .str "scale"]) hT0
      rcases kind_in hk with ⟨e, hl⟩ | ⟨e, z, rfl⟩
      · obtain ⟨r1, r2, r3⟩ := len_reads hl
        have hw := (txt_wd hl.atom).1
        rw [e]
        refine iteT ⟨_, rfl, _, _, _, rfl, r1, r2, r3, by omega, fun T1 G1 hN1 s1 hT1 => ?_⟩
        have hR1 := hR.same (s0.trans s1)
        refine ⟨_, rfl, ?_, hR1, Exs.of (s0.trans s1)⟩
        rw [pair_form hl.1]
        obtain ⟨dx1, hp1⟩ := hR1.ins
        refine dp_out (fun z => ?_) hT1 ⟨dx1, _, hp1⟩ (.cons (.int _) (.cons (.int _) .nil))
        have f0 := s0 _ _ hp
        rw [z, f0] at hN1
        cases hN1
      · rw [e]
        exact iteF ⟨_, rfl, .str _, hR.same s0, Exs.of s0⟩
    · rintro σ G ⟨x, rfl, hx, hG, eG⟩
      obtain ⟨dxg, hpg⟩ := hG.ins
      obtain ⟨g1, g2, g3⟩ := rF_get (L := L) (i := i) (o := o)
      refine ⟨_, rfl, _, rfl, kd, x, pItem d, rfl, Dp.same wos_sub _ _ hx, (pair_kind hk).1, fun G1 s1 => ⟨_, rfl, iteF ?_⟩⟩
      have hG1 := hG.same s1
      obtain ⟨dx1, hp1⟩ := hG1.ins
      refine ⟨_, rfl, p, C, dx1, _, _, rfl, hp1, T.cl, T.nA, g2, _, _, rfl, rfl, dx1, _, hp1, (show 3 < 1000 by decide), ?_⟩
      rw [put_at]
      have e : ((i : Nat) : Int) + 1 = ((i + 1 : Nat) : Int) := by omega
      rw [e]
      refine ⟨_, rfl, k x _ ?_ hG1.go ((eG.trans (Exs.of s1)).trans exs_p)⟩
      exact Dp.same ((Exs.of s1).trans exs_p) _ _ hx
end
end Lw

set_option maxRecDepth 100000
set_option linter.unusedVariables false
namespace Lw
open PySem PySem.Spec PyProof.Rows L2 VG
/-! ### the words from a place on -/
structure Seg (W : List Str) (i : Nat) (r : List Str) : Prop where
  le : i ≤ W.length
  dr : W.drop i = r
theorem Seg.at' {W a r : List Str} {i t : Nat} (h : Seg W i (a ++ r)) (ht : t < a.length) : W[i + t]? = a[t]? := by
  have e : (W.drop i)[t]? = (a ++ r)[t]? := by rw [h.dr]
  rw [List.getElem?_drop, List.getElem?_append_left ht] at e
  exact e
theorem Seg.hd {W r : List Str} {i : Nat} {z : Str} (h : Seg W i (z :: r)) : W[i]? = some z := Seg.at' (a := [z]) (t := 0) h (by simp)
theorem Seg.tl {W r : List Str} {i : Nat} {z : Str} (h : Seg W i (z :: r)) : Seg W (i + 1) r := by
  refine ⟨(at_len h.hd).1, ?_⟩
  have e := congrArg List.tail h.dr
  rw [List.tail_drop] at e
  exact e
theorem Seg.app {W r : List Str} : ∀ {a : List Str} {i : Nat}, Seg W i (a ++ r) → Seg W (i + a.length) r
  | [], i, h => h
  | z :: a, i, h => by
    have e := Seg.app (a := a) (Seg.tl h)
    rw [List.length_cons, Nat.add_comm a.length 1, ← Nat.add_assoc]
    exact e
theorem Seg.word {W r : List Str} {i : Nat} (h : Seg W i r) : wAt W i = r.headD "" := by
  cases r with
  | nil =>
    unfold wAt
    have := congrArg List.length h.dr
    rw [List.length_drop, List.length_nil] at this
    rw [List.getD_eq_getElem?_getD, List.getElem?_eq_none (by omega)]
    rfl
  | cons z r => exact (at_len h.hd).2
def spRStep (K : PySem.W.Frag) (C : Addr) (R : PyData → List Str → PyData → Prop) (m : Nat) : Sp := fun vs H Q _ => ∃ (p L : Addr) (W : List Str) (i : Nat) (o : Int) (d : PyData) (ws post : List Str) (q : PyData), vs = [.ref p] ∧ RdAt C H p L W i o ∧ Seg W i (ws ++ post) ∧ R d ws q ∧ o + m ≤ 12 ∧
  ∀ (x : V) (H' : Hp), Dp K (wos [p] H') x q → RdAt C H' p L W ((i + ws.length : Nat) : Int) o → Exs [p] H H' → Q x H'
def spRPart (K : PySem.W.Frag) (C : Addr) (R : List PyData → List Str → List PyData → Prop) (m : Nat) : Sp := fun vs H Q _ => ∃ (p L : Addr) (W : List Str) (i : Nat) (o : Int) (ds : List PyData) (ws post : List Str) (qs : List PyData), vs = [.ref p] ∧ RdAt C H p L W i o ∧ Seg W i (("(" : Str) :: (ws ++ ((")" : Str) :: post))) ∧ R ds ws qs ∧ o + m ≤ 12 ∧
  ∀ (x : V) (H' : Hp), Dp K (wos [p] H') x (.tuple qs) → RdAt C H' p L W ((i + (ws.length + 2) : Nat) : Int) o → Exs [p] H H' → Q x H'
section
variable {P : Program} {w : World} {K : PySem.W.Frag} {mg : Str → Option Value} {base : Heap} {C : Addr}

variable {R : List PyData → List Str → List PyData → Prop} {m j : Nat} {f fW fPs fIt fPt fI fR : Addr} {fd fdW fdPs fdIt fdPt fdI fdR : FuncData}
theorem cast3 {H : Hp} {p L : Addr} {W : List Str} {o : Int} {a b : Nat} (h : a = b) (q : RdAt C H p L W ((a : Nat) : Int) o) : RdAt C H p L W ((b : Nat) : Int) o := h ▸ q
abbrev NIf : List Str := ["self", "asked", "first", "second", "kind"]
theorem scRIf : FnScope NIf ["self"] (defScope rIf) := ⟨rfl, rfl, rfl, by decide +kernel, rfl, by decide +kernel, by decide +kernel⟩
/-- the items of a list, one word each -/
theorem acc_item {H G : Hp} {p D : Addr} {ds : List PyData} {x : V} {d : PyData} (nD : D ∉ [p]) (c : Acc K [p] D H ds) (e : Exs [p] H G) (hx : Dp K (wos [p] G) x d) (hq : noL d = true) (hp : ∃ C dx fs, G p = some (.ins C dx fs)) (l : ds.length < 100) :
    ∃ acc, G D = some (.lst acc) ∧ acc.length < sizeLine ∧ acc.length = ds.length ∧ Acc K [p] D (upd G D (.lst (acc ++ [x]))) (ds ++ [d]) := by
  have c2 := c.on (Exs.mono (fun b h => List.mem_cons_of_mem _ h) e) fun o h => e.on nD h
  obtain ⟨acc, h1, h2⟩ := c2.ex
  have hx2 : Dp K (wos [D, p] G) x d := by
    have := Dp.wosT (S := [D]) (G := wos [p] G) (fun b hb => by
      rw [List.mem_singleton.mp hb, wos_out nD]
      exact ⟨_, h1⟩) d x hq hx
    refine Dp.same (fun b o z => ?_) d x this
    by_cases y : b = D
    · rw [wos_in (List.mem_singleton.mpr y)] at z
      cases z
    · rw [wos_out (fun q => y (List.mem_singleton.mp q))] at z
      by_cases y2 : b ∈ [p]
      · rw [wos_in y2] at z
        cases z
      · rw [wos_out y2] at z
        rw [wos_out]
        · exact z
        · intro q
          rcases List.mem_cons.mp q with q | q
          · exact y q
          · exact y2 q
  obtain ⟨acc', e1, e2, e3⟩ := c2.more hx2
  rw [h1] at e1
  cases e1
  exact ⟨acc, h1, Nat.lt_of_lt_of_le (show acc.length < 100 by omega) (by decide), e2, e3⟩
theorem pair_noL {k : Str} {d : PyData} (h : KindOk k d) : noL (pItem d) = true := by
  rcases kind_atom h with ⟨z, rfl, _⟩ | ⟨h1, _⟩
  · rfl
  · rw [pair_form h1]
    rfl
theorem ok_rIf {A1 : Addr} (hj : 7 ≤ j) (F : Fun K "_if" "Reader._if" rIf f fd) (T : TxR K C) (mA : mg "ASKED" = some (.ref A1)) (hA : ∀ H, SqT K H A1 (askK.map V.str))
    (GPs : FnOk P w K mg base CX0 2 fPs fdPs ["self", "word"] (spRPass C)) (MPs : Meth K C "_pass" fPs) (bPs : Binds K fdPs ["self", "word"] [])
    (GIt : FnOk P w K mg base CX0 7 fIt fdIt ["self", "kind"] (spRItem K C)) (MIt : Meth K C "_item" fIt) (bIt : Binds K fdIt ["self", "kind"] [])
    (GPt : FnOk P w K mg base CX0 j fPt fdPt ["self"] (spRPart K C R m)) (MPt : Meth K C "_part" fPt) (bPt : Binds K fdPt ["self"] [])
    : FnOk P w K mg base CX0 (j + 1) f fd ["self"] (spRStep K C (TIf R) m) := by
  refine F.ok scRIf (fun vs H Q E h => ?_) (fun cdv A outer s H vs Q E hr h => ?_)
  · obtain ⟨p, _, _, _, _, _, _, _, _, rfl, _⟩ := h
    rfl
  · obtain ⟨p, L, W, i, o, d, ws, post, q, rfl, hR, sg, ⟨as, d1, d2, w1, w2, p1, p2, hk, rfl, rfl, r1, r2, rfl⟩, ho, k⟩ := h
    have nd := scRIf.nd
    have hr2 : Room 2 _ := hr.mono (by omega)
    have hr7 : Room 7 _ := hr.mono hj
    refine ⟨_, pss_cons (ps_expr (pe_meth (E := E0) (pv 0) T.cl MPs GPs hr2 bPs .nil pass0 (pa_cons (pe_str) pa_nil)))
        (C8.pss_cut (ps_setLc (i := 1) (own := [("kind", 4)]) (g := gName 4) (tt := tYes) (by rfl) nd rfl rfl (sw_true rfl rfl rfl (by decide +kernel)) (pi_tup (pe_glob (v := .ref A1) (by rfl) mA rfl)) (blkOk_by (own := [("kind", 4)]) (N := NIf) (sc := defScope rIf) (by decide +kernel)) (fun _ _ _ _ _ => pg_name (i := 4) nd rfl (Or.inl rfl)) (fun _ _ _ _ _ => pts_nil) (fun _ _ _ _ _ => pe_meth (E := E0) (pv 0) T.cl MIt GIt hr7 bIt .nil pass0 (pa_cons (pv 4) pa_nil)))
        (pss_cons (ps_set (i := 2) nd rfl (by first | exact Or.inl rfl | exact Or.inr rfl) (pe_meth0 (E := E0) (pv 0) T.cl MPt GPt hr bPt .nil pass0))
        (pss_cons (ps_expr (pe_meth (E := E0) (pv 0) T.cl MPs GPs hr2 bPs .nil pass0 (pa_cons (pe_str) pa_nil)))
        (pss_cons (ps_set (i := 3) nd rfl (by first | exact Or.inl rfl | exact Or.inr rfl) (pe_meth0 (E := E0) (pv 0) T.cl MPt GPt hr bPt .nil pass0))
        (pss_one (ps_ret (pe_tup (pa_cons pe_str (StX.pa_star (pv 1) (pa_cons (pv 2) (pa_cons (pv 3) pa_nil))))))))))), ?_⟩
    obtain ⟨dx, hp⟩ := hR.ins
    have l4 : as.length = 4 := (paired_len2 hk).symm
    refine ⟨_, rfl, p, dx, _, rfl, hp, rF_no, p, L, W, i, o, "if", rfl, hR, sg.hd, fun G1 hR1 e1 => ?_⟩
    have sg1 : Seg W (i + 1) (as.map txtD ++ (("(" : Str) :: (w1 ++ ((")" : Str) :: ("else" : Str) :: ("(" : Str) :: (w2 ++ ((")" : Str) :: post)))))) := by
      have := sg.tl
      simpa using this
    refine ⟨fun σ G => ∃ D ys, σ = [some (.ref p), some (.ref D), none, none, none] ∧ G D = some (.lst ys) ∧ D ∉ [p] ∧ DpAll K (wos [p] G) ys (as.map pItem) ∧ RdAt C G p L W ((i + 5 : Nat) : Int) o ∧ Exs [p] H G, ?_, ?_⟩
    · refine ⟨A1, rfl, ⟨_, hA G1⟩, fun D hD => ?_⟩
      have oD := hR1.out hD
      have nD : D ∉ [p] := fun z => oD.1 (List.mem_singleton.mp z)
      refine lc_tup (K := K) (a := A1) (xs := askK.map V.str) (fun t G => RdAt C G p L W ((i + 1 + t : Nat) : Int) o ∧ Acc K [p] D G ((as.take t).map pItem) ∧ Exs [p] H G) ⟨?_, Acc.start, e1.trans (Exs.put (fun _ _ z => z : Exs [p] G1 G1) hD)⟩ (fun _ G _ _ => hA G) (fun t x G hx c => ?_) (fun G c => ?_)
      · exact ⟨hR1.ins.imp fun dx h => by rw [upd_ne oD.1.symm]; exact h, by rw [upd_ne oD.2.symm]; exact hR1.ws⟩
      · obtain ⟨hRt, ct, et⟩ := c
        rw [List.getElem?_map] at hx
        obtain ⟨kd, hkd, rfl⟩ := Option.map_eq_some_iff.mp hx
        obtain ⟨d, hd, hkk⟩ := paired_at2 hk hkd
        have lt : t < as.length := (List.getElem?_eq_some_iff.mp hd).1
        have hw : W[i + 1 + t]? = some (txtD d) := by
          rw [Seg.at' sg1 (by rw [List.length_map]; exact lt), List.getElem?_map, hd]
          rfl
        obtain ⟨dxt, hpt⟩ := hRt.ins
        refine ⟨rfl, _, rfl, p, dxt, _, rfl, hpt, rF_no, _, rfl, p, L, W, i + 1 + t, o, kd, d, rfl, hRt, hw, hkk, fun y G2 hy hR2 e2 => ?_⟩
        obtain ⟨dx2, hp2⟩ := hR2.ins
        obtain ⟨acc, a1, a2, a3, a4⟩ := acc_item nD ct e2 hy (pair_noL hkk) ⟨_, _, _, hp2⟩ (by rw [List.length_map, List.length_take]; omega)
        refine ⟨acc, a1, a2, ?_, ?_, ?_⟩
        · refine ⟨⟨dx2, by rw [upd_ne oD.1.symm]; exact hp2⟩, by rw [upd_ne oD.2.symm]; exact hR2.ws⟩
        · have et : as.take (t + 1) = as.take t ++ [d] := by
            rw [List.take_add_one, hd]
            rfl
          rw [et, List.map_append]
          exact a4
        · have e3 := et.trans e2
          intro b o z
          by_cases y : b ∈ [p]
          · rw [wos_in y] at z
            cases z
          · have z2 := e3 b o z
            rw [wos_out y] at z z2 ⊢
            have nb : b ≠ D := fun q => by
              have hHD : H D = none := by
                cases h : H D with
                | none => rfl
                | some u =>
                  have := e1 D u (by rw [wos_out nD]; exact h)
                  rw [wos_out nD, hD] at this
                  cases this
              rw [q, hHD] at z
              cases z
            rw [upd_ne nb]
            exact z2
      · obtain ⟨hRt, ct, et⟩ := c
        have e4 : (askK.map V.str).length = 4 := rfl
        rw [e4] at hRt ct
        rw [List.take_of_length_le (by omega)] at ct
        obtain ⟨acc, h1, h2⟩ := ct.ex
        exact ⟨D, acc, rfl, h1, nD, DpAll.same (wos_less fun b z => List.mem_cons_of_mem _ z) _ _ h2, hRt, et⟩
    rintro σ G ⟨D, ys, rfl, hDl, nD, hys, hRa, ea⟩
    have sg2 := Seg.app sg1
    rw [List.length_map, l4] at sg2
    obtain ⟨dxa, hpa⟩ := hRa.ins
    refine ⟨_, rfl, p, dxa, _, rfl, hpa, rF_no, p, L, W, i + 5, o, d1, w1, _, p1, rfl, hRa, sg2, r1, ho, fun x1 G2 hx1 hR2 e2 => ?_⟩
    have sg3 := Seg.app (Seg.tl sg2)
    have sg3 := sg3.tl
    obtain ⟨dx2, hp2⟩ := hR2.ins
    refine ⟨_, rfl, p, dx2, _, rfl, hp2, rF_no, p, L, W, i + 5 + (w1.length + 2), o, "else", rfl, hR2, ?_, fun G3 hR3 e3 => ?_⟩
    · have := sg3.hd
      rw [show i + 5 + 1 + w1.length + 1 = i + 5 + (w1.length + 2) by omega] at this
      exact this
    have sg4 := sg3.tl
    rw [show i + 5 + 1 + w1.length + 1 + 1 = i + 5 + (w1.length + 2) + 1 by omega] at sg4
    obtain ⟨dx3, hp3⟩ := hR3.ins
    refine ⟨_, rfl, p, dx3, _, rfl, hp3, rF_no, p, L, W, i + 5 + (w1.length + 2) + 1, o, d2, w2, _, p2, rfl, hR3, sg4, r2, ho, fun x2 G4 hx2 hR4 e4 => ?_⟩
    have e24 := e2.trans (e3.trans e4)
    refine ⟨_, rfl, D, ys, rfl, .inr (SqL.of (Exs.on e24 nD hDl)), _, rfl, _, rfl, ?_, fun T hT => ?_⟩
    · have := DpAll.len hys
      rw [List.length_map, l4] at this
      refine Nat.le_trans (m := 7) ?_ (by decide)
      simp only [List.length_cons, List.length_append, List.length_nil]
      omega
    have oT := hR4.out hT
    have all4 : DpAll K (wos [p] G4) (V.str "if" :: (ys ++ [x1, x2])) (PyData.str "if" :: (as.map pItem ++ [.tuple p1, .tuple p2])) := .cons (.str _) (DpAll.app (DpAll.same e24 _ _ hys) (.cons (Dp.same (e3.trans e4) _ _ hx1) (.cons hx2 .nil)))
    refine k _ _ (Dp.tupN hT (fun z => oT.1 (List.mem_singleton.mp z)) all4) ?_ ((ea.trans e24).trans (Exs.of (same_upd hT)))
    have hR5 := hR4.same (same_upd (o := .tup (V.str "if" :: (ys ++ [x1, x2]))) hT)
    refine cast3 ?_ hR5
    simp only [List.length_cons, List.length_append, List.length_map, List.length_nil, l4]
    omega
abbrev NRp : List Str := ["self", "word"]
theorem scRRep : FnScope NRp ["self"] (defScope rRep) := ⟨rfl, rfl, rfl, by decide +kernel, rfl, by decide +kernel, by decide +kernel⟩
theorem rep_word {k : Int} (h1 : 1 ≤ k) (h3 : k ≤ 3) : inV (.str (txtD (.int k))) [.str "1", .str "2", .str "3"] = true ∧ PySem.intText? (txtD (.int k)) = some k ∧ (txtD (.int k)).length ≤ 640 := by
  have hk : k = 1 ∨ k = 2 ∨ k = 3 := by omega
  rcases hk with rfl | rfl | rfl
  · exact ⟨by decide +kernel, by decide +kernel, by decide +kernel⟩
  · exact ⟨by decide +kernel, by decide +kernel, by decide +kernel⟩
  · exact ⟨by decide +kernel, by decide +kernel, by decide +kernel⟩
theorem ok_rRep (hj : 7 ≤ j) (F : Fun K "_repeat" "Reader._repeat" rRep f fd) (T : TxR K C) (mi : mg "int" = none)
    (GW : FnOk P w K mg base CX0 1 fW fdW ["self"] (spRWord C)) (MW : Meth K C "_word" fW) (bW : Binds K fdW ["self"] [])
    (GPs : FnOk P w K mg base CX0 2 fPs fdPs ["self", "word"] (spRPass C)) (MPs : Meth K C "_pass" fPs) (bPs : Binds K fdPs ["self", "word"] [])
    (GPt : FnOk P w K mg base CX0 j fPt fdPt ["self"] (spRPart K C R m)) (MPt : Meth K C "_part" fPt) (bPt : Binds K fdPt ["self"] [])
    : FnOk P w K mg base CX0 (j + 1) f fd ["self"] (spRStep K C (TRep R) m) := by
  refine F.ok scRRep (fun vs H Q E h => ?_) (fun cdv A outer s H vs Q E hr h => ?_)
  · obtain ⟨p, _, _, _, _, _, _, _, _, rfl, _⟩ := h
    rfl
  · obtain ⟨p, L, W, i, o, d, ws, post, q, rfl, hR, sg, ⟨n, d1, w1, p1, rfl, rfl, k1, k3, r1, rfl⟩, ho, k⟩ := h
    have nd := scRRep.nd
    have hr1 : Room 1 _ := hr.mono (by omega)
    have hr2 : Room 2 _ := hr.mono (by omega)
    refine ⟨_, pss_cons (ps_expr (pe_meth (E := E0) (pv 0) T.cl MPs GPs hr2 bPs .nil pass0 (pa_cons (pe_str) pa_nil)))
        (pss_cons (ps_set (i := 1) nd rfl (by first | exact Or.inl rfl | exact Or.inr rfl) (pe_meth0 (E := E0) (pv 0) T.cl MW GW hr1 bW .nil pass0))
        (pss_cons (ps_if (pt_cmpR op_notIn_seq (pv 1) (pe_tup (pa_cons (pe_str) (pa_cons (pe_str) (pa_cons (pe_str) pa_nil)))) (by with_unfolding_all rfl)) pss_false pss_nil)
        (pss_cons (ps_fldaug (pv 0) pe_int in_add)
        (pss_one (ps_ret (pe_tup (pa_cons (pe_str) (pa_cons (pe_callTy call_int_str (by rfl) mi (by decide +kernel) (pa_cons (pv 1) pa_nil)) (pa_cons (pe_meth0 (E := E0) (pv 0) T.cl MPt GPt hr bPt .nil pass0) pa_nil))))))))), ?_⟩
    obtain ⟨dx, hp⟩ := hR.ins
    obtain ⟨i1, i2, i3⟩ := rep_word k1 k3
    refine ⟨_, rfl, p, dx, _, rfl, hp, rF_no, p, L, W, i, o, "repeat", rfl, hR, sg.hd, fun G1 hR1 e1 => ?_⟩
    have sg1 := sg.tl
    obtain ⟨dx1, hp1⟩ := hR1.ins
    refine ⟨_, rfl, p, dx1, _, rfl, hp1, rF_no, p, L, W, i + 1, o, rfl, hR1, sg1.le, ?_⟩
    rw [(at_len sg1.hd).2]
    refine ⟨_, rfl, (show 3 ≤ sizeLine by decide), fun T0 hT0 => ⟨T0, [.str "1", .str "2", .str "3"], rfl, .inr (SqT.of upd_same), rfl, rfl, _, rfl, ?_⟩⟩
    have s0 := same_upd (o := .tup [.str "1", .str "2", .str "3"]) hT0
    have hR2 := hR1.same s0
    obtain ⟨dx2, hp2⟩ := hR2.ins
    rw [i1]
    obtain ⟨g1, g2, g3⟩ := rF_get (L := L) (i := ((i + 1 : Nat) : Int)) (o := o)
    refine iteF ⟨_, rfl, p, C, dx2, _, _, rfl, hp2, T.cl, T.nA, g2, _, _, rfl, rfl, dx2, _, hp2, (show 3 < 1000 by decide), ?_⟩
    rw [put_at, show ((i + 1 : Nat) : Int) + 1 = ((i + 2 : Nat) : Int) by omega]
    have hR3 : RdAt C (upd (upd G1 T0 (.tup [.str "1", .str "2", .str "3"])) p (.ins C dx2 (rF L ((i + 2 : Nat) : Int) o))) p L W ((i + 2 : Nat) : Int) o := hR2.go
    have e3 : Exs [p] H (upd (upd G1 T0 (.tup [.str "1", .str "2", .str "3"])) p (.ins C dx2 (rF L ((i + 2 : Nat) : Int) o))) := (e1.trans (Exs.of s0)).trans exs_p
    generalize upd (upd G1 T0 (.tup [.str "1", .str "2", .str "3"])) p (.ins C dx2 (rF L ((i + 2 : Nat) : Int) o)) = G3 at hR3 e3
    have sg2 : Seg W (i + 2) (("(" : Str) :: (w1 ++ ((")" : Str) :: post))) := by
      have := sg1.tl
      simpa using this
    obtain ⟨dx3, hp3⟩ := hR3.ins
    refine ⟨_, rfl, _, n, rfl, i2, i3, _, rfl, p, dx3, _, rfl, hp3, rF_no, p, L, W, i + 2, o, d1, w1, _, p1, rfl, hR3, sg2, r1, ho, fun x1 G4 hx1 hR4 e4 => ?_⟩
    refine ⟨(show 3 ≤ sizeLine by decide), fun T hT => ?_⟩
    have oT := hR4.out hT
    refine k _ _ (Dp.tupN hT (fun z => oT.1 (List.mem_singleton.mp z)) (.cons (.str _) (.cons (.int _) (.cons hx1 .nil)))) ?_ ((e3.trans e4).trans (Exs.of (same_upd hT)))
    refine cast3 ?_ (hR4.same (same_upd (o := .tup [.str "repeat", .int n, x1]) hT))
    simp only [List.length_cons, List.length_append, List.length_nil]
    omega
end
end Lw

set_option maxRecDepth 100000
set_option linter.unusedVariables false
namespace Lw
open PySem PySem.Spec PyProof.Rows L2 VG
/-! ### a step, a part, a list of steps -/
structure ShT (K : PySem.W.Frag) (w : World) (mg : Str → Option Value) (SD : Addr) : Prop where
  at_ : mg "SHAPES" = some (.ref SD)
  dic : ∃ es n, KDict K w SD es n
  val : ∀ s ∈ SHL, ∃ T : Addr, PySem.W.nsIn K SD s.1 = some (some (.ref T)) ∧ ∀ H, SqT K H T (s.2.map V.str)
theorem shl_at {u : Str} {ks : List Str} (h : (u, ks) ∈ SHL) : u ≠ "if" ∧ u ≠ "repeat" := ⟨(shl_words _ h).2.1, (shl_words _ h).2.2.1⟩
section
variable {P : Program} {w : World} {K : PySem.W.Frag} {mg : Str → Option Value} {base : Heap} {C : Addr}

variable {R : List PyData → List Str → List PyData → Prop} {m j : Nat} {f fW fPs fIt fPt fI fR fL : Addr} {fd fdW fdPs fdIt fdPt fdI fdR fdL : FuncData}
abbrev NRs : List Str := ["self", "word", "items", "kind"]
theorem scRStep : FnScope NRs ["self"] (defScope rStep) := ⟨rfl, rfl, rfl, by decide +kernel, rfl, by decide +kernel, by decide +kernel⟩
theorem eqv_str {a b : Str} (h : a ≠ b) : eqV (.str a) (.str b) = false := by
  show decide (a = b) = false
  exact decide_eq_false h
theorem sam_no {t : Nat} {u y z : Str} {xs : List V} {H : Hp} (hd : DpAll K H xs ((([.str y, .str z] : List PyData).take t).map pItem)) (hn : y ≠ z) (ht : t < 2) (hu : ([.str y, .str z] : List PyData)[t]? = some (.str u)) : xs.all flatV = true ∧ inV (.str u) xs = false := by
  have h2 : t = 0 ∨ t = 1 := by omega
  rcases h2 with rfl | rfl
  · cases hd
    exact ⟨rfl, rfl⟩
  · cases hu
    have hd : DpAll K H xs [.str y] := hd
    cases hd with
    | cons h t =>
      cases t
      cases h
      refine ⟨rfl, ?_⟩
      show (eqV (.str y) (.str u) || false) = false
      rw [Bool.or_false]
      exact eqv_str hn
theorem ok_rStep {SD : Addr} (hj : 7 ≤ j) (F : Fun K "_step" "Reader._step" rStep f fd) (T : TxR K C) (ST : ShT K w mg SD)
    (GW : FnOk P w K mg base CX0 1 fW fdW ["self"] (spRWord C)) (MW : Meth K C "_word" fW) (bW : Binds K fdW ["self"] [])
    (GIt : FnOk P w K mg base CX0 7 fIt fdIt ["self", "kind"] (spRItem K C)) (MIt : Meth K C "_item" fIt) (bIt : Binds K fdIt ["self", "kind"] [])
    (GF : FnOk P w K mg base CX0 j fI fdI ["self"] (spRStep K C (TIf R) m)) (MF : Meth K C "_if" fI) (bF : Binds K fdI ["self"] [])
    (GR : FnOk P w K mg base CX0 j fR fdR ["self"] (spRStep K C (TRep R) m)) (MR : Meth K C "_repeat" fR) (bR : Binds K fdR ["self"] [])
    : FnOk P w K mg base CX0 (j + 1) f fd ["self"] (spRStep K C (TS R) m) := by
  refine F.ok scRStep (fun vs H Q E h => ?_) (fun cdv A outer s H vs Q E hr h => ?_)
  · obtain ⟨p, _, _, _, _, _, _, _, _, rfl, _⟩ := h
    rfl
  · obtain ⟨p, L, W, i, o, d, ws, post, q, rfl, hR, sg, hT, ho, k⟩ := h
    have nd := scRStep.nd
    have hr1 : Room 1 _ := hr.mono (by omega)
    have hr7 : Room 7 _ := hr.mono hj
    obtain ⟨es, en, KD⟩ := ST.dic
    refine ⟨_, pss_cons (ps_set (i := 1) nd rfl (by first | exact Or.inl rfl | exact Or.inr rfl) (pe_meth0 (E := E0) (pv 0) T.cl MW GW hr1 bW .nil pass0))
        (pss_cons (ps_if (pt_cmpR op_eq (pv 1) pe_str (nomark _)) (pss_one (ps_ret (pe_meth0 (E := E0) (pv 0) T.cl MF GF hr bF .nil pass0))) pss_nil)
        (pss_cons (ps_if (pt_cmpR op_eq (pv 1) pe_str (nomark _)) (pss_one (ps_ret (pe_meth0 (E := E0) (pv 0) T.cl MR GR hr bR .nil pass0))) pss_nil)
        (pss_cons (ps_if (pt_cmpR (op_notIn_kd KD) (pv 1) (pe_glob (v := .ref SD) (by rfl) ST.at_ rfl) (by with_unfolding_all rfl)) pss_false pss_nil)
        (pss_cons (ps_fldaug (pv 0) pe_int in_add)
        (pss_cons (ps_set (i := 2) nd rfl (by first | exact Or.inl rfl | exact Or.inr rfl) (pe_lst pa_nil))
        (pss_cons (ps_for PassesOwn.never rfl (pi_tup (pe_ix (show IxR _ (rIxD K w) from ix_kdict) (pe_glob (v := .ref SD) (by rfl) ST.at_ rfl) (pv 1) (fun _ _ => rfl))) (pg_name (i := 3) nd rfl (by first | exact Or.inl rfl | exact Or.inr rfl))
        (pss_cons (ps_if (PW.pt (pw_and (pt_cmpR op_eq (pv 1) pe_str (nomark _)) (pw_and1 (pt_cmpR op_in_seq (pe_meth0 (E := E0) (pv 0) T.cl MW GW hr1 bW .nil pass0) (pv 2) rfl)))) pss_false pss_nil)
        (pss_one (ps_expr (pe_bm PySem.F.plainAttrs_list PySem.F.slot_list_append PySem.F.type_list_append mt_append (pv 2) (pa_cons (pe_meth (E := E0) (pv 0) T.cl MIt GIt hr7 bIt .nil pass0 (pa_cons (pv 3) pa_nil)) pa_nil))))))
        (pss_one (ps_ret (pe_tup (pa_cons (pv 1) (StX.pa_star (pv 2) pa_nil))))))))))), ?_⟩
    obtain ⟨dx, hp⟩ := hR.ins
    have no : ∀ {a b : Str} {S S' : Prop}, a ≠ b → S' → (if decide (V.str a = V.str b) = true then S else S') := fun {a b S S'} n t => by
      rw [str_cmp, decide_eq_false n]
      exact iteF t
    have yes : ∀ {a : Str} {S S' : Prop}, S → (if decide (V.str a = V.str a) = true then S else S') := fun {a S S'} t => by
      rw [decide_eq_true rfl]
      exact iteT t
    refine ⟨_, rfl, p, dx, _, rfl, hp, rF_no, p, L, W, i, o, rfl, hR, sg.le, ?_⟩
    rw [sg.word]
    rcases hT with ⟨u, ks, items, hm, rfl, rfl, rfl, hk, hs⟩ | ht | ht
    · obtain ⟨n1, n2⟩ := shl_at hm
      obtain ⟨TA, hn, hTA⟩ := ST.val _ hm
      refine ⟨_, rfl, rfl, _, rfl, no n1 ⟨_, rfl, rfl, _, rfl, no n2 ⟨_, rfl, u, _, rfl, rfl, hn, _, rfl, iteF ?_⟩⟩⟩
      obtain ⟨g1, g2, g3⟩ := rF_get (L := L) (i := i) (o := o)
      refine ⟨_, rfl, p, C, dx, _, _, rfl, hp, T.cl, T.nA, g2, _, _, rfl, rfl, dx, _, hp, (show 3 < 1000 by decide), ?_⟩
      rw [put_at, show ((i : Nat) : Int) + 1 = ((i + 1 : Nat) : Int) by omega]
      have hR1 : RdAt C (upd H p (.ins C dx (rF L ((i + 1 : Nat) : Int) o))) p L W ((i + 1 : Nat) : Int) o := hR.go
      have e1 : Exs [p] H (upd H p (.ins C dx (rF L ((i + 1 : Nat) : Int) o))) := exs_p
      generalize upd H p (.ins C dx (rF L ((i + 1 : Nat) : Int) o)) = G1 at hR1 e1
      have sg1 : Seg W (i + 1) (items.map txtD ++ post) := sg.tl
      have lk := paired_len2 hk
      have l4 : ks.length ≤ 4 := (shl_words _ hm).2.2.2
      refine ⟨(show 0 ≤ sizeLine by decide), fun D hD => ?_⟩
      have oD := hR1.out hD
      have nD : D ∉ [p] := fun z => oD.1 (List.mem_singleton.mp z)
      have hHD : H D = none := by
        cases h : H D with
        | none => rfl
        | some z =>
          have := e1 D z (by rw [wos_out nD]; exact h)
          rw [wos_out nD, hD] at this
          cases this
      refine ⟨_, rfl, SD, u, .ref TA, rfl, rfl, ⟨es, en, .ref TA, KD.at_, KD.lit, hn, rfl⟩, TA, rfl, ⟨_, hTA _⟩, for_tup (K := K) (a := TA) (xs := ks.map V.str) (fun t σ G => ∃ o3, σ = [some (.ref p), some (.str u), some (.ref D), o3] ∧ RdAt C G p L W ((i + 1 + t : Nat) : Int) o ∧ Acc K [p] D G ((items.take t).map pItem) ∧ Exs [p] H G)
        ⟨none, rfl, ⟨hR1.ins.imp fun dx h => by rw [upd_ne oD.1.symm]; exact h, by rw [upd_ne oD.2.symm]; exact hR1.ws⟩, Acc.start, e1.trans (Exs.put (fun _ _ z => z : Exs [p] G1 G1) hD)⟩ (fun _ _ G _ _ => hTA G) ?_ ?_⟩
      · rintro t x σ G hx ⟨o3, rfl, hRt, ct, et⟩
        rw [List.getElem?_map] at hx
        obtain ⟨kd, hkd, rfl⟩ := Option.map_eq_some_iff.mp hx
        obtain ⟨d, hd, hkk⟩ := paired_at2 hk hkd
        have lt : t < items.length := (List.getElem?_eq_some_iff.mp hd).1
        have hw : W[i + 1 + t]? = some (txtD d) := by
          rw [Seg.at' sg1 (by rw [List.length_map]; exact lt), List.getElem?_map, hd]
          rfl
        obtain ⟨dxt, hpt⟩ := hRt.ins
        obtain ⟨lw, ew⟩ := at_len hw
        -- the item
        have go : ∀ (y : V) (G2 : Hp), Dp K (wos [p] G2) y (pItem d) → RdAt C G2 p L W ((i + 1 + t + 1 : Nat) : Int) o → Exs [p] G G2 → ∃ acc, G2 D = some (.lst acc) ∧ acc.length < sizeLine ∧ RdAt C (upd G2 D (.lst (acc ++ [y]))) p L W ((i + 1 + t + 1 : Nat) : Int) o ∧ Acc K [p] D (upd G2 D (.lst (acc ++ [y]))) ((items.take (t + 1)).map pItem) ∧ Exs [p] H (upd G2 D (.lst (acc ++ [y]))) := fun y G2 hy hR2 e2 => by
          obtain ⟨dx2, hp2⟩ := hR2.ins
          obtain ⟨acc, a1, a2, a3, a4⟩ := acc_item nD ct e2 hy (pair_noL hkk) ⟨_, _, _, hp2⟩ (by rw [List.length_map, List.length_take]; omega)
          refine ⟨acc, a1, a2, ⟨⟨dx2, by rw [upd_ne oD.1.symm]; exact hp2⟩, by rw [upd_ne oD.2.symm]; exact hR2.ws⟩, ?_, Exs.put (et.trans e2) hHD⟩
          have et : items.take (t + 1) = items.take t ++ [d] := by
            rw [List.take_add_one, hd]
            rfl
          rw [et, List.map_append]
          exact a4
        obtain ⟨acc0, hacc0, dacc0⟩ := ct.ex
        by_cases z : u = "same"
        · obtain ⟨y, y2, rfl, hyy⟩ := hs z
          have hd2 : ∃ v, d = .str v := by
            have h2 : t = 0 ∨ t = 1 := by
              have : t < 2 := lt
              omega
            rcases h2 with rfl | rfl
            · cases hd
              exact ⟨_, rfl⟩
            · cases hd
              exact ⟨_, rfl⟩
          obtain ⟨v, rfl⟩ := hd2
          obtain ⟨f1, f2⟩ := sam_no dacc0 hyy lt hd
          refine ⟨_, rfl, rfl, _, rfl, ?_⟩
          rw [str_cmp, decide_eq_true z]
          refine iteT ⟨_, rfl, p, dxt, _, rfl, hpt, rF_no, p, L, W, i + 1 + t, o, rfl, hRt, by omega, ?_⟩
          rw [ew]
          refine ⟨_, rfl, D, acc0, rfl, .inl (SqL.of hacc0), rfl, f1, _, rfl, ?_⟩
          have f3 : inV (V.str (txtD (.str v))) acc0 = false := f2
          rw [f3]
          refine iteF ⟨_, rfl, .inl ⟨rfl, _, SqL.of hacc0⟩, _, rfl, p, dxt, _, rfl, hpt, rF_no, _, rfl, p, L, W, i + 1 + t, o, kd, _, rfl, hRt, hw, hkk, fun y G2 hy hR2 e2 => ?_⟩
          obtain ⟨acc, a1, a2, r1, r2, r3⟩ := go y G2 hy hR2 e2
          exact ⟨D, acc, _, rfl, rfl, a1, a2, _, rfl, r1, r2, r3⟩
        · refine ⟨_, rfl, rfl, _, rfl, no z (iteF ⟨_, rfl, .inl ⟨rfl, _, SqL.of hacc0⟩, _, rfl, p, dxt, _, rfl, hpt, rF_no, _, rfl, p, L, W, i + 1 + t, o, kd, d, rfl, hRt, hw, hkk, fun y G2 hy hR2 e2 => ?_⟩)⟩
          obtain ⟨acc, a1, a2, r1, r2, r3⟩ := go y G2 hy hR2 e2
          exact ⟨D, acc, _, rfl, rfl, a1, a2, _, rfl, r1, r2, r3⟩
      · rintro σ G ⟨o3, rfl, hRt, ct, et⟩
        rw [List.length_map] at hRt ct
        rw [List.take_of_length_le (by omega)] at ct
        obtain ⟨acc, h1, h2⟩ := ct.ex
        have la := DpAll.len h2
        rw [List.length_map] at la
        refine ⟨_, rfl, _, rfl, D, acc, rfl, .inr (SqL.of h1), ?_, fun T hT => ?_⟩
        · refine Nat.le_trans (m := 7) ?_ (by decide)
          simp only [List.length_cons, List.length_append, List.length_nil]
          omega
        have oT := hRt.out hT
        rw [List.append_nil]
        refine k _ _ (Dp.tupN hT (fun z => oT.1 (List.mem_singleton.mp z)) (.cons (.str u) (DpAll.same (wos_less fun b z => List.mem_cons_of_mem _ z) _ _ h2))) ?_ (et.trans (Exs.of (same_upd hT)))
        refine cast3 ?_ (hRt.same (same_upd hT))
        simp only [List.length_cons, List.length_map]
        omega
    · have hw : (ws ++ post).headD "" = "if" := by
        obtain ⟨as, d1, d2, w1, w2, p1, p2, _, _, _, _, _, rfl⟩ := ht
        rfl
      rw [hw]
      exact ⟨_, rfl, rfl, _, rfl, yes ⟨_, rfl, p, dx, _, rfl, hp, rF_no, p, L, W, i, o, d, ws, post, q, rfl, hR, sg, ht, ho, k⟩⟩
    · have hw : (ws ++ post).headD "" = "repeat" := by
        obtain ⟨n, d1, w1, p1, _, _, _, _, _, rfl⟩ := ht
        rfl
      rw [hw]
      exact ⟨_, rfl, rfl, _, rfl, no (by decide +kernel) ⟨_, rfl, rfl, _, rfl, yes ⟨_, rfl, p, dx, _, rfl, hp, rF_no, p, L, W, i, o, d, ws, post, q, rfl, hR, sg, ht, ho, k⟩⟩⟩
end
end Lw

set_option maxRecDepth 100000
set_option linter.unusedVariables false
namespace Lw
open PySem PySem.Spec PyProof.Rows L2 VG
open TL (numL)
/-! ### words of steps, once more -/
/-- a word that is there, without a space -/
def goodW (z : Str) : Prop := 1 ≤ z.length ∧ 32 ∉ z.cps.toList
theorem good_of {z : Str} (h : (1 ≤ z.length ∧ 32 ∉ z.cps.toList) := by decide +kernel) : goodW z := h
theorem shl_good : ∀ s ∈ SHL, (1 ≤ s.1.length ∧ 32 ∉ s.1.cps.toList) ∧ s.1 ≠ ")" := by decide +kernel
theorem num_good (n : Nat) : numL n ≠ [] ∧ 32 ∉ numL n := ⟨TL.numL_ne n, fun h => by
  have := TL.numL_digits n 32 h
  omega⟩
theorem kind_good {k : Str} {d : PyData} (h : KindOk k d) : goodW (txtD d) := by
  have nm : ∀ {z : Str}, nmB z → goodW z := fun {z} h => by
    have h := h.1
    unfold nameB at h
    simp only [Bool.and_eq_true, decide_eq_true_eq] at h
    have ha := h.2.2.1
    have e : Txt.isalpha z = (decide (z.cps.toList.length > 0) && z.cps.toList.all Unicode.isAlpha) := by simp [Txt.isalpha, Str.length]
    rw [e] at ha
    simp only [Bool.and_eq_true, decide_eq_true_eq, List.all_eq_true] at ha
    refine ⟨by rw [show z.length = z.cps.toList.length by simp [Str.length]]; omega, fun hc => ?_⟩
    exact absurd (ha.2 32 hc) (by decide +kernel)
  have ln : ∀ {d : PyData}, LenD d → goodW (txtD d) := fun {d} h => by
    obtain ⟨h1, h2, h3, h4⟩ := h
    rw [txt_num h1]
    have t0 : topL (ratD d).1 = numL (ratD d).1.natAbs := by
      unfold topL
      rw [if_neg (by omega), List.nil_append]
    obtain ⟨a1, a2⟩ := num_good (ratD d).1.natAbs
    obtain ⟨b1, b2⟩ := num_good (ratD d).2.natAbs
    unfold goodW textL
    rw [t0]
    refine ⟨?_, fun hc => ?_⟩
    · rw [tx_len, List.length_append]
      have := List.length_pos_iff.mpr a1
      omega
    · have hc : 32 ∈ numL (ratD d).1.natAbs ++ (if (ratD d).2 = 1 then [] else 47 :: numL (ratD d).2.natAbs) := hc
      rcases List.mem_append.mp hc with hc | hc
      · exact a2 hc
      · split at hc
        · cases hc
        · rcases List.mem_cons.mp hc with hc | hc
          · cases hc
          · exact b2 hc
  cases h with
  | layer h => rcases h with rfl | rfl <;> exact good_of
  | name h => exact nm h
  | new h => exact nm h
  | length h => exact ln h
  | scale h g => exact ln h
theorem kinds_good {ks : List Str} {as : List PyData} (h : Paired KindOk ks as) : ∀ w ∈ as.map txtD, goodW w := fun w hw => by
  obtain ⟨d, hd, rfl⟩ := List.mem_map.mp hw
  obtain ⟨k, _, hk⟩ := paired_mem2 h hd
  exact kind_good hk
theorem sep_mem {wss : List (List Str)} {w : Str} : w ∈ sepJ wss → w = ";" ∨ ∃ ws ∈ wss, w ∈ ws := by
  have key : ∀ (wss : List (List Str)) (acc : List Str), w ∈ wss.foldl (fun a w => a ++ (if a = [] then [] else [(";" : Str)]) ++ w) acc → w ∈ acc ∨ w = ";" ∨ ∃ ws ∈ wss, w ∈ ws := fun wss => by
    induction wss with
    | nil => exact fun acc h => .inl h
    | cons v r ih =>
      intro acc h
      rcases ih _ h with h | h | ⟨ws, h1, h2⟩
      · rcases List.mem_append.mp h with h | h
        · rcases List.mem_append.mp h with h | h
          · exact .inl h
          · split at h
            · cases h
            · exact .inr (.inl (List.mem_singleton.mp h))
        · exact .inr (.inr ⟨v, List.mem_cons_self, h⟩)
      · exact .inr (.inl h)
      · exact .inr (.inr ⟨ws, List.mem_cons_of_mem _ h1, h2⟩)
  intro h
  rcases key wss [] h with h | h
  · cases h
  · exact h
structure TwG (ws : List Str) (p : PyData) : Prop where
  noL : VG.noL p = true
  good : ∀ w ∈ ws, goodW w
  hd : ∃ z r, ws = z :: r ∧ z ≠ ")"
theorem pairs_noL {ks : List Str} {as : List PyData} (h : Paired KindOk ks as) : ∀ e ∈ as.map pItem, noL e = true := fun e he => by
  obtain ⟨d, hd, rfl⟩ := List.mem_map.mp he
  obtain ⟨k, _, hk⟩ := paired_mem2 h hd
  exact pair_noL hk
theorem ts_g {R : List PyData → List Str → List PyData → Prop} (hR : ∀ ds ws ps, R ds ws ps → noLs ps = true ∧ ∀ w ∈ ws, goodW w) {d : PyData} {ws : List Str} {p : PyData} (h : TS R d ws p) : TwG ws p := by
  rcases h with ⟨u, ks, items, hm, rfl, rfl, rfl, hk, _⟩ | ⟨as, d1, d2, w1, w2, p1, p2, hk, rfl, rfl, r1, r2, rfl⟩ | ⟨k, d1, w1, p1, rfl, rfl, k1, k3, r1, rfl⟩
  · obtain ⟨g, n⟩ := shl_good _ hm
    refine ⟨noLs_of fun e he => ?_, fun w hw => ?_, _, _, rfl, n⟩
    · rcases List.mem_cons.mp he with rfl | he
      · rfl
      · exact pairs_noL hk e he
    · rcases List.mem_cons.mp hw with rfl | hw
      · exact g
      · exact kinds_good hk w hw
  · obtain ⟨n1, g1⟩ := hR _ _ _ r1
    obtain ⟨n2, g2⟩ := hR _ _ _ r2
    refine ⟨noLs_of fun e he => ?_, fun w hw => ?_, _, _, rfl, by decide +kernel⟩
    · rcases List.mem_cons.mp he with rfl | he
      · rfl
      rcases List.mem_append.mp he with he | he
      · exact pairs_noL hk e he
      rcases List.mem_cons.mp he with rfl | he
      · exact n1
      · rw [List.mem_singleton.mp he]
        exact n2
    · simp only [List.mem_cons, List.mem_append, List.not_mem_nil, or_false] at hw
      rcases hw with rfl | hw | rfl | hw | rfl | rfl | rfl | hw | rfl
      · exact good_of
      · exact kinds_good hk w hw
      · exact good_of
      · exact g1 w hw
      · exact good_of
      · exact good_of
      · exact good_of
      · exact g2 w hw
      · exact good_of
  · obtain ⟨n1, g1⟩ := hR _ _ _ r1
    refine ⟨noLs_of fun e he => ?_, fun w hw => ?_, _, _, rfl, by decide +kernel⟩
    · rcases List.mem_cons.mp he with rfl | he
      · rfl
      rcases List.mem_cons.mp he with rfl | he
      · rfl
      · rw [List.mem_singleton.mp he]
        exact n1
    · simp only [List.mem_cons, List.mem_append, List.not_mem_nil, or_false] at hw
      rcases hw with rfl | rfl | rfl | hw | rfl
      · exact good_of
      · have hk : k = 1 ∨ k = 2 ∨ k = 3 := by omega
        rcases hk with rfl | rfl | rfl <;> exact good_of
      · exact good_of
      · exact g1 w hw
      · exact good_of
theorem lt_g {m : Nat} {R : PyData → List Str → PyData → Prop} (hR : ∀ d ws p, R d ws p → TwG ws p) {ds : List PyData} {ws : List Str} {ps : List PyData} (h : LT m R ds ws ps) : noLs ps = true ∧ ∀ w ∈ ws, goodW w := by
  obtain ⟨l, qs, pa, rfl, rfl⟩ := h
  have each : ∀ q ∈ qs, TwG q.1 q.2 := fun q hq => by
    obtain ⟨d, _, hd⟩ := paired_mem2 pa hq
    exact hR _ _ _ hd
  refine ⟨noLs_of fun e he => ?_, fun w hw => ?_⟩
  · obtain ⟨q, hq, rfl⟩ := List.mem_map.mp he
    exact (each q hq).noL
  · rcases sep_mem hw with rfl | ⟨ws, h1, h2⟩
    · exact good_of
    · obtain ⟨q, hq, rfl⟩ := List.mem_map.mp h1
      exact (each q hq).good w h2
theorem tw_g : ∀ (n : Nat) {d : PyData} {ws : List Str} {p : PyData}, TW n d ws p → TwG ws p
  | 0, d, ws, p, h => ts_g (fun _ _ _ z => z.elim) h
  | n + 1, d, ws, p, h => ts_g (R := LT 2 (TW n)) (fun ds ws ps z => lt_g (R := TW n) (fun d ws p z => tw_g n z) z) h
def tailJ : List (List Str) → List Str
  | [] => []
  | w :: r => (";" : Str) :: (w ++ tailJ r)
theorem sep_tail {w : List Str} {wss : List (List Str)} (hw : w ≠ []) : sepJ (w :: wss) = w ++ tailJ wss := by
  have key : ∀ (wss : List (List Str)) (acc : List Str), acc ≠ [] → wss.foldl (fun a w => a ++ (if a = [] then [] else [(";" : Str)]) ++ w) acc = acc ++ tailJ wss := fun wss => by
    induction wss with
    | nil => exact fun acc _ => (List.append_nil acc).symm
    | cons v r ih =>
      intro acc h
      rw [List.foldl_cons, if_neg h, ih _ (by simp [h])]
      show acc ++ [(";" : Str)] ++ v ++ tailJ r = acc ++ ((";" : Str) :: (v ++ tailJ r))
      simp
  show (wss.foldl _ ([] ++ (if ([] : List Str) = [] then [] else [(";" : Str)]) ++ w)) = _
  rw [if_pos rfl, key _ _ (by simpa using hw)]
  simp
/-! a text cut at its spaces -/
def jl : List Str → List Nat
  | [] => []
  | [a] => a.cps.toList
  | a :: b :: r => a.cps.toList ++ 32 :: jl (b :: r)
theorem join_jl : ∀ ws : List Str, (Str.join " " ws).cps.toList = jl ws
  | [] => rfl
  | [_] => rfl
  | a :: b :: r => by
    have ih := join_jl (b :: r)
    show (a ++ (" " : Str) ++ Str.join " " (b :: r)).cps.toList = _
    rw [app_list, app_list, ih]
    show a.cps.toList ++ [32] ++ jl (b :: r) = a.cps.toList ++ 32 :: jl (b :: r)
    simp
theorem spl_jl : ∀ {ws : List Str}, ws ≠ [] → (∀ w ∈ ws, 32 ∉ w.cps.toList) → TL.spl [32] 0 [] (jl ws) = ws.map fun w => w.cps.toList
  | [], h, _ => absurd rfl h
  | [a], _, h => TL.spl_last1 (h a List.mem_cons_self)
  | a :: b :: r, _, h => by
    have ih := spl_jl (ws := b :: r) (by simp) fun w hw => h w (List.mem_cons_of_mem _ hw)
    have e := TL.spl_part1 (s := 32) (S := []) (p := a.cps.toList) (rest := jl (b :: r)) (acc := []) (h a List.mem_cons_self)
    show TL.spl [32] 0 [] (a.cps.toList ++ 32 :: jl (b :: r)) = _
    rw [List.map_cons, ← ih]
    exact e
theorem joined_jl (ws : List Str) : joined ws = Tx (jl ws) := by
  refine str_ext ?_
  have e : joined ws = Str.join " " ws := StrLaws.glued_eq_join _ _
  rw [e, join_jl]
theorem split_joined {ws : List Str} (h0 : ws ≠ []) (h : ∀ w ∈ ws, goodW w) : Txt.split (joined ws) " " = ws := by
  rw [joined_jl]
  have e : Txt.split (Tx (jl ws)) " " = (TL.spl [32] 0 [] (jl ws)).map Tx := SX.split_S (a := jl ws) (b := [32]) (by simp) (by decide)
  rw [e, spl_jl h0 fun w hw => (h w hw).2, List.map_map]
  have : (Tx ∘ fun w : Str => w.cps.toList) = id := by
    funext w
    exact str_ext rfl
  rw [this, List.map_id]
theorem joined_ne {ws : List Str} (h0 : ws ≠ []) (h : ∀ w ∈ ws, goodW w) : 1 ≤ (joined ws).length := by
  have e : joined ws = Str.join " " ws := StrLaws.glued_eq_join _ _
  obtain ⟨z, r, rfl⟩ := List.exists_cons_of_ne_nil h0
  rw [e]
  exact Nat.le_trans (h z List.mem_cons_self).1 (join_mem_le " " (z :: r) z List.mem_cons_self)
/-! ### parts, lists, the whole -/
def spRList (K : PySem.W.Frag) (C : Addr) (R : List PyData → List Str → List PyData → Prop) (m : Nat) : Sp := fun vs H Q _ => ∃ (p L : Addr) (W : List Str) (i : Nat) (o : Int) (ds : List PyData) (ws post : List Str) (qs : List PyData), vs = [.ref p] ∧ RdAt C H p L W i o ∧ Seg W i (ws ++ post) ∧ R ds ws qs ∧ ds ≠ [] ∧ post.headD "" ≠ ";" ∧ o + m ≤ 12 ∧
  ∀ (x : V) (H' : Hp), Dp K (wos [p] H') x (.tuple qs) → RdAt C H' p L W ((i + ws.length : Nat) : Int) o → Exs [p] H H' → Q x H'
section
variable {P : Program} {w : World} {K : PySem.W.Frag} {mg : Str → Option Value} {base : Heap} {C : Addr}

variable {m j : Nat} {f fW fPs fS fL : Addr} {fd fdW fdPs fdS fdL : FuncData}
abbrev NPt : List Str := ["self", "steps"]
theorem scRPart : FnScope NPt ["self"] (defScope rPart) := ⟨rfl, rfl, rfl, by decide +kernel, rfl, by decide +kernel, by decide +kernel⟩
theorem scRList : FnScope NPt ["self"] (defScope rList) := ⟨rfl, rfl, rfl, by decide +kernel, rfl, by decide +kernel, by decide +kernel⟩
theorem scRAll : FnScope NPt ["self"] (defScope rAll) := ⟨rfl, rfl, rfl, by decide +kernel, rfl, by decide +kernel, by decide +kernel⟩
theorem ok_rPart {R : List PyData → List Str → List PyData → Prop} (hj : 2 ≤ j) (hR : ∀ ds ws ps, R ds ws ps → (ds = [] ∧ ws = [] ∧ ps = []) ∨ (ds ≠ [] ∧ ∃ z r, ws = z :: r ∧ z ≠ ")")) (F : Fun K "_part" "Reader._part" rPart f fd) (T : TxR K C) {uM : Value} (mM : mg "MOST_OPEN" = some uM) (rM12 : RelV (.int 12) uM)
    (GW : FnOk P w K mg base CX0 1 fW fdW ["self"] (spRWord C)) (MW : Meth K C "_word" fW) (bW : Binds K fdW ["self"] [])
    (GPs : FnOk P w K mg base CX0 2 fPs fdPs ["self", "word"] (spRPass C)) (MPs : Meth K C "_pass" fPs) (bPs : Binds K fdPs ["self", "word"] [])
    (GL : FnOk P w K mg base CX0 j fL fdL ["self"] (spRList K C R m)) (ML : Meth K C "_step_list" fL) (bL : Binds K fdL ["self"] [])
    : FnOk P w K mg base CX0 (j + 1) f fd ["self"] (spRPart K C R (m + 1)) := by
  refine F.ok scRPart (fun vs H Q E h => ?_) (fun cdv A outer s H vs Q E hr h => ?_)
  · obtain ⟨p, _, _, _, _, _, _, _, _, rfl, _⟩ := h
    rfl
  · obtain ⟨p, L, W, i, o, ds, ws, post, qs, rfl, hRd, sg, hr0, ho, k⟩ := h
    have nd := scRPart.nd
    have hr1 : Room 1 _ := hr.mono (by omega)
    have hr2 : Room 2 _ := hr.mono hj
    refine ⟨_, pss_cons (ps_if (pt_cmpR op_eq (pe_fld (pv 0) rfl) (pe_glob (v := .int 12) (by rfl) mM rM12) (nomark _)) pss_false pss_nil)
        (pss_cons (ps_expr (pe_meth (E := E0) (pv 0) T.cl MPs GPs hr2 bPs .nil pass0 (pa_cons (pe_str) pa_nil)))
        (pss_cons (ps_fldaug (pv 0) pe_int in_add)
        (C8.pss_cut (ps_set (i := 1) nd rfl (by first | exact Or.inl rfl | exact Or.inr rfl) (pe_ifExp (pt_cmpR op_eq (pe_meth0 (E := E0) (pv 0) T.cl MW GW hr1 bW .nil pass0) pe_str (nomark _)) (pe_tup pa_nil) (pe_meth0 (E := E0) (pv 0) T.cl ML GL hr bL .nil pass0)))
        (pss_cons (ps_expr (pe_meth (E := E0) (pv 0) T.cl MPs GPs hr2 bPs .nil pass0 (pa_cons (pe_str) pa_nil)))
        (pss_cons (ps_fldaug (pv 0) pe_int in_sub)
        (pss_one (ps_ret (pv 1)))))))), ?_⟩
    obtain ⟨dx, hp⟩ := hRd.ins
    have g3 := (rF_get (L := L) (i := i) (o := o)).2.2
    refine ⟨_, rfl, p, C, dx, _, _, rfl, hp, T.cl, T.nO, g3, rfl, _, rfl, ?_⟩
    rw [decide_eq_false (fun z => by have := V.int.inj z; omega)]
    refine iteF ⟨_, rfl, p, dx, _, rfl, hp, rF_no, p, L, W, i, o, "(", rfl, hRd, sg.hd, fun G1 hR1 e1 => ?_⟩
    have sg1 := sg.tl
    obtain ⟨dx1, hp1⟩ := hR1.ins
    have g4 := (rF_get (L := L) (i := ((i + 1 : Nat) : Int)) (o := o)).2.2
    refine ⟨_, rfl, p, C, dx1, _, _, rfl, hp1, T.cl, T.nO, g4, _, _, rfl, rfl, dx1, _, hp1, (show 3 < 1000 by decide), ?_⟩
    rw [put_op]
    have hR2 : RdAt C (upd G1 p (.ins C dx1 (rF L ((i + 1 : Nat) : Int) (o + 1)))) p L W ((i + 1 : Nat) : Int) (o + 1) := hR1.go
    have e2 : Exs [p] H (upd G1 p (.ins C dx1 (rF L ((i + 1 : Nat) : Int) (o + 1)))) := Same.trans e1 exs_p
    generalize upd G1 p (.ins C dx1 (rF L ((i + 1 : Nat) : Int) (o + 1))) = G2 at hR2 e2
    refine ⟨fun σ G => ∃ x, σ = [some (.ref p), some x] ∧ Dp K (wos [p] G) x (.tuple qs) ∧ RdAt C G p L W ((i + 1 + ws.length : Nat) : Int) (o + 1) ∧ Exs [p] H G, ?_, ?_⟩
    · obtain ⟨dx2, hp2⟩ := hR2.ins
      refine ⟨_, rfl, p, dx2, _, rfl, hp2, rF_no, p, L, W, i + 1, o + 1, rfl, hR2, sg1.le, rfl, _, rfl, ?_⟩
      rw [sg1.word, str_cmp]
      rcases hR _ _ _ hr0 with ⟨rfl, rfl, rfl⟩ | ⟨h0, z, r, rfl, hz⟩
      · rw [decide_eq_true (show (([] : List Str) ++ ((")" : Str) :: post)).headD "" = ")" from rfl)]
        refine iteT ⟨(show 0 ≤ sizeLine by decide), fun T0 hT0 => ⟨_, rfl, ?_, hR2.same (same_upd hT0), Same.trans e2 (Exs.of (same_upd hT0))⟩⟩
        exact Dp.tupN hT0 (fun z => (hR2.out hT0).1 (List.mem_singleton.mp z)) .nil
      · rw [decide_eq_false (show ¬ ((z :: r) ++ ((")" : Str) :: post)).headD "" = ")" from hz)]
        exact iteF ⟨_, rfl, p, dx2, _, rfl, hp2, rF_no, p, L, W, i + 1, o + 1, ds, _, _, qs, rfl, hR2, sg1, hr0, h0, by show ¬ (")" : Str) = ";"; decide +kernel, by omega, fun x G3 hx hR3 e3 => ⟨x, rfl, hx, hR3, Same.trans e2 e3⟩⟩
    rintro σ G ⟨x, rfl, hx, hR3, e3⟩
    have sg2 := Seg.app sg1
    obtain ⟨dx3, hp3⟩ := hR3.ins
    refine ⟨_, rfl, p, dx3, _, rfl, hp3, rF_no, p, L, W, i + 1 + ws.length, o + 1, ")", rfl, hR3, sg2.hd, fun G4 hR4 e4 => ?_⟩
    obtain ⟨dx4, hp4⟩ := hR4.ins
    have g5 := (rF_get (L := L) (i := ((i + 1 + ws.length + 1 : Nat) : Int)) (o := o + 1)).2.2
    refine ⟨_, rfl, p, C, dx4, _, _, rfl, hp4, T.cl, T.nO, g5, _, _, rfl, rfl, dx4, _, hp4, (show 3 < 1000 by decide), ?_⟩
    rw [put_op, show o + 1 - 1 = o by omega]
    exact ⟨_, rfl, k x _ (Dp.same (Same.trans e4 exs_p) _ _ hx) (cast3 (by omega) hR4.go) (Same.trans (Same.trans e3 e4) exs_p)⟩
theorem ok_rList {R : PyData → List Str → PyData → Prop} {mm : Nat} (hj : 1 ≤ j) (hm : mm ≤ 10) (hR : ∀ d ws q, R d ws q → TwG ws q) (F : Fun K "_step_list" "Reader._step_list" rList f fd) (T : TxR K C) (tpl : mg "tuple" = none)
    (GW : FnOk P w K mg base CX0 1 fW fdW ["self"] (spRWord C)) (MW : Meth K C "_word" fW) (bW : Binds K fdW ["self"] [])
    (GS : FnOk P w K mg base CX0 j fS fdS ["self"] (spRStep K C R m)) (MS : Meth K C "_step" fS) (bS : Binds K fdS ["self"] [])
    : FnOk P w K mg base CX0 (j + 1) f fd ["self"] (spRList K C (LT mm R) m) := by
  refine F.ok scRList (fun vs H Q E h => ?_) (fun cdv A outer s H vs Q E hr h => ?_)
  · obtain ⟨p, _, _, _, _, _, _, _, _, rfl, _⟩ := h
    rfl
  · obtain ⟨p, L, W, i, o, ds, ws, post, ps, rfl, hRd, sg, ⟨hl, qs, pa, rfl, rfl⟩, h0, hpost, ho, k⟩ := h
    have nd := scRList.nd
    have hr1 : Room 1 _ := hr.mono hj
    refine ⟨_, pss_cons (ps_set (i := 1) nd rfl (by first | exact Or.inl rfl | exact Or.inr rfl) (pe_lst (pa_cons (pe_meth0 (E := E0) (pv 0) T.cl MS GS hr bS .nil pass0) pa_nil)))
        (pss_cons (ps_while PassesOwn.never (pt_cmpR op_eq (pe_meth0 (E := E0) (pv 0) T.cl MW GW hr1 bW .nil pass0) pe_str (nomark _))
        (pss_cons (ps_fldaug (pv 0) pe_int in_add)
        (pss_one (ps_expr (pe_bm PySem.F.plainAttrs_list PySem.F.slot_list_append PySem.F.type_list_append mt_append (pv 1) (pa_cons (pe_meth0 (E := E0) (pv 0) T.cl MS GS hr bS .nil pass0) pa_nil))))))
        (pss_one (ps_ret (pe_callTy call_tupleK (by rfl) tpl (by decide +kernel) (pa_cons (pv 1) pa_nil))))), ?_⟩
    cases pa with
    | nil => exact absurd rfl h0
    | @cons d q0 ds qs rd pa =>
      have g0 := hR _ _ _ rd
      obtain ⟨z0, r0, ez0, _⟩ := g0.hd
      have ne0 : q0.1 ≠ [] := by rw [ez0]; simp
      have esep : sepJ ((q0 :: qs).map Prod.fst) = q0.1 ++ tailJ (qs.map Prod.fst) := sep_tail ne0
      rw [esep] at sg k
      rw [List.append_assoc] at sg
      obtain ⟨dx, hp⟩ := hRd.ins
      refine ⟨_, rfl, p, dx, _, rfl, hp, rF_no, p, L, W, i, o, d, q0.1, _, q0.2, rfl, hRd, sg, rd, ho, fun x G1 hx hR1 e1 => ⟨(show 1 ≤ sizeLine by decide), fun D hD => ?_⟩⟩
      have oD := hR1.out hD
      have nD : D ∉ [p] := fun z => oD.1 (List.mem_singleton.mp z)
      have hHD : H D = none := by
        cases h : H D with
        | none => rfl
        | some u =>
          have := e1 D u (by rw [wos_out nD]; exact h)
          rw [wos_out nD, hD] at this
          cases this
      have hx2 : Dp K (wos [D, p] (upd G1 D (.lst [x]))) x q0.2 := by
        rw [wos_upd List.mem_cons_self]
        refine Dp.same (fun b u z => ?_) _ _ hx
        by_cases y : b ∈ [p]
        · rw [wos_in y] at z
          cases z
        · rw [wos_out y] at z
          rw [wos_out]
          · exact z
          · intro t
            rcases List.mem_cons.mp t with t | t
            · rw [t, hD] at z
              cases z
            · exact y t
      refine while_by (fun σ G => ∃ (ds1 : List PyData) (qs1 : List (List Str × PyData)) (i1 : Nat) (dn : List PyData), σ = [some (.ref p), some (.ref D)] ∧ Paired (fun d q => R d q.1 q.2) ds1 qs1 ∧ RdAt C G p L W i1 o ∧ Seg W i1 (tailJ (qs1.map Prod.fst) ++ post) ∧ Acc K [p] D G dn ∧ dn ++ qs1.map Prod.snd = (q0 :: qs).map Prod.snd ∧
          i1 + (tailJ (qs1.map Prod.fst)).length = i + (q0.1 ++ tailJ (qs.map Prod.fst)).length ∧ Exs [p] H G)
        (fun _ G => match G D with | some (.lst acc) => 100 - acc.length | _ => 0)
        ⟨ds, qs, i + q0.1.length, [q0.2], rfl, pa, ⟨hR1.ins.imp fun dx h => by rw [upd_ne oD.1.symm]; exact h, by rw [upd_ne oD.2.symm]; exact hR1.ws⟩, Seg.app sg, ⟨⟨[x], upd_same, .cons hx2 .nil⟩⟩, rfl, by rw [List.length_append]; omega, Exs.put e1 hHD⟩ ?_ ?_
      · rintro σ G ⟨ds1, qs1, i1, dn, rfl, pa1, hRt, sgt, ct, edn, ei, et⟩
        obtain ⟨dxt, hpt⟩ := hRt.ins
        obtain ⟨acc0, hacc0, dacc0⟩ := ct.ex
        have la0 := DpAll.len dacc0
        have lq : qs.length ≤ 10 := by
          have := paired_len2 pa
          rw [List.length_cons] at hl
          omega
        have ldn : dn.length + qs1.length = qs.length + 1 := by
          have := congrArg List.length edn
          rw [List.length_append, List.length_map, List.length_map, List.length_cons] at this
          exact this
        refine ⟨_, rfl, p, dxt, _, rfl, hpt, rF_no, p, L, W, i1, o, rfl, hRt, sgt.le, rfl, _, rfl, ?_⟩
        rw [sgt.word, str_cmp]
        cases pa1 with
        | nil =>
          rw [decide_eq_false (show ¬ (tailJ (([] : List (List Str × PyData)).map Prod.fst) ++ post).headD "" = ";" from hpost)]
          refine iteF ⟨_, rfl, D, acc0, rfl, .inl ⟨SqL.of hacc0, fun l hl => ?_⟩⟩
          have e2 : dn = (q0 :: qs).map Prod.snd := by
            rw [← edn]
            simp
          rw [e2] at dacc0
          have ol := hRt.out hl
          refine k _ _ (Dp.tupN hl (fun z => ol.1 (List.mem_singleton.mp z)) (DpAll.same (wos_less fun b z => List.mem_cons_of_mem _ z) _ _ dacc0)) ?_ (Same.trans et (Exs.of (same_upd hl)))
          exact cast3 (by rw [← ei]; rfl) (hRt.same (same_upd hl))
        | @cons d1 q1 ds2 qs2 rd1 pa2 =>
          have sg1 : Seg W i1 ((";" : Str) :: (q1.1 ++ (tailJ (qs2.map Prod.fst) ++ post))) := by
            have e : tailJ ((q1 :: qs2).map Prod.fst) ++ post = (";" : Str) :: (q1.1 ++ (tailJ (qs2.map Prod.fst) ++ post)) := by
              show ((";" : Str) :: (q1.1 ++ tailJ (qs2.map Prod.fst))) ++ post = _
              rw [List.cons_append, List.append_assoc]
            rw [← e]
            exact sgt
          rw [decide_eq_true (show (tailJ ((q1 :: qs2).map Prod.fst) ++ post).headD "" = ";" from rfl)]
          have g2 := (rF_get (L := L) (i := (i1 : Nat)) (o := o)).2.1
          refine iteT ⟨_, rfl, p, C, dxt, _, _, rfl, hpt, T.cl, T.nA, g2, _, _, rfl, rfl, dxt, _, hpt, (show 3 < 1000 by decide), ?_⟩
          rw [put_at, show ((i1 : Nat) : Int) + 1 = ((i1 + 1 : Nat) : Int) by omega]
          have hR2 : RdAt C (upd G p (.ins C dxt (rF L ((i1 + 1 : Nat) : Int) o))) p L W ((i1 + 1 : Nat) : Int) o := hRt.go
          have e2 : Exs [p] G (upd G p (.ins C dxt (rF L ((i1 + 1 : Nat) : Int) o))) := exs_p
          have hacc2 : upd G p (.ins C dxt (rF L ((i1 + 1 : Nat) : Int) o)) D = some (.lst acc0) := by rw [upd_ne oD.1]; exact hacc0
          obtain ⟨dx2, hp2⟩ := hR2.ins
          refine ⟨_, rfl, .inl ⟨rfl, _, SqL.of hacc2⟩, _, rfl, p, dx2, _, rfl, hp2, rF_no, p, L, W, i1 + 1, o, d1, q1.1, _, q1.2, rfl, hR2, sg1.tl, rd1, ho, fun y G3 hy hR3 e3 => ?_⟩
          obtain ⟨dx3, hp3⟩ := hR3.ins
          have e23 := Same.trans e2 e3
          obtain ⟨acc, a1, a2, a3, a4⟩ := acc_item nD ct e23 hy (hR _ _ _ rd1).noL ⟨_, _, _, hp3⟩ (by omega)
          have hacc3 := Exs.on e23 nD hacc0
          rw [a1] at hacc3
          cases hacc3
          refine ⟨D, acc0, y, rfl, rfl, a1, a2, ⟨ds2, qs2, i1 + 1 + q1.1.length, dn ++ [q1.2], rfl, pa2, ⟨⟨dx3, by rw [upd_ne oD.1.symm]; exact hp3⟩, by rw [upd_ne oD.2.symm]; exact hR3.ws⟩, Seg.app sg1.tl, a4, ?_, ?_, Exs.put (Same.trans et e23) hHD⟩, ?_⟩
          · rw [← edn]
            simp
          · rw [← ei]
            show _ = i1 + ((";" : Str) :: (q1.1 ++ tailJ (qs2.map Prod.fst))).length
            rw [List.length_cons, List.length_append]
            omega
          · show (match upd G3 D (.lst (acc0 ++ [y])) D with | some (.lst acc) => 100 - acc.length | _ => 0) < (match G D with | some (.lst acc) => 100 - acc.length | _ => 0)
            rw [upd_same, hacc0]
            show 100 - (acc0 ++ [y]).length < 100 - acc0.length
            rw [List.length_append, List.length_singleton]
            omega
      · rintro σ G Q1 Q2 hq ⟨v, e1, a, dx, fs, b1, b2, b3, p', L', W', i', o', b4, b5, b6, b7, kk, b8, z⟩
        exact ⟨v, e1, a, dx, fs, b1, b2, b3, p', L', W', i', o', b4, b5, b6, b7, kk, b8, hq _ _ z⟩
end
end Lw

set_option maxRecDepth 100000
set_option linter.unusedVariables false
namespace Lw
open PySem PySem.Spec PyProof.Rows L2 VG
/-! ### the whole text -/
theorem strOk_list (z : Str) : PyData.strOk z = z.cps.toList.all (fun c => decide (c < 0x110000)) := by simp [PyData.strOk]
theorem len_list (z : Str) : z.length = z.cps.toList.length := by simp [Str.length]
theorem ok_app {x y : Str} (h : PyData.strOk x = true) (g : PyData.strOk y = true) : PyData.strOk (x ++ y) = true := by
  rw [strOk_list] at h g ⊢
  rw [app_list, List.all_append, h, g]
  rfl
theorem len_app {x y : Str} : (x ++ y).length = x.length + y.length := by
  rw [len_list, len_list, len_list, app_list, List.length_append]
theorem join_ok : ∀ {ws : List Str}, (∀ w ∈ ws, wdB w) → (Str.join " " ws).length ≤ 13 * ws.length ∧ PyData.strOk (Str.join " " ws) = true
  | [], _ => ⟨by decide +kernel, by decide +kernel⟩
  | [a], h => by
    have := h a List.mem_cons_self
    refine ⟨?_, this.2⟩
    show a.length ≤ 13 * 1
    have := this.1
    omega
  | a :: b :: r, h => by
    obtain ⟨l, o⟩ := join_ok (ws := b :: r) fun w hw => h w (List.mem_cons_of_mem _ hw)
    have ha := h a List.mem_cons_self
    have e : Str.join " " (a :: b :: r) = a ++ (" " : Str) ++ Str.join " " (b :: r) := rfl
    rw [e]
    refine ⟨?_, ok_app (ok_app ha.2 (by decide +kernel)) o⟩
    rw [len_app, len_app]
    have h1 : (" " : Str).length = 1 := by decide +kernel
    have h2 := ha.1
    rw [h1]
    simp only [List.length_cons] at l ⊢
    omega
theorem joined_ok {ds : List PyData} {ws : List Str} (h : LW 10 (SW 2) ds ws) : (joined ws).cps.size ≤ 30030 ∧ PyData.strOk (joined ws) = true := by
  obtain ⟨l, a⟩ := lw2_size h
  obtain ⟨l2, o⟩ := join_ok a
  have e : joined ws = Str.join " " ws := StrLaws.glued_eq_join _ _
  rw [e]
  refine ⟨?_, o⟩
  have : (Str.join " " ws).cps.size = (Str.join " " ws).length := rfl
  omega

theorem lt_cases {m n : Nat} {ds : List PyData} {ws : List Str} {ps : List PyData} (h : LT m (TW n) ds ws ps) : (ds = [] ∧ ws = [] ∧ ps = []) ∨ (ds ≠ [] ∧ ∃ z r, ws = z :: r ∧ z ≠ ")") := by
  obtain ⟨l, qs, pa, rfl, rfl⟩ := h
  cases pa with
  | nil => exact .inl ⟨rfl, rfl, rfl⟩
  | @cons d q ds qs rd pa =>
    obtain ⟨z, r, e, n⟩ := (tw_g n rd).hd
    refine .inr ⟨by simp, z, r ++ tailJ (qs.map Prod.fst), ?_, n⟩
    show sepJ (q.1 :: qs.map Prod.fst) = _
    rw [sep_tail (by rw [e]; simp), e]
    rfl
theorem bulk_app : ∀ (a b : List PyData), PyData.bulkAll (a ++ b) = PyData.bulkAll a + PyData.bulkAll b
  | [], b => by simp [PyData.bulkAll]
  | x :: a, b => by
    rw [List.cons_append]
    simp only [PyData.bulkAll]
    rw [bulk_app a b]
    omega
theorem bulk_str {z : Str} (h : wdB z) : PyData.bulk (.str z) ≤ 12 := by
  simp only [PyData.bulk]
  exact h.1
def bN : Nat → Nat
  | 0 => 80
  | n + 1 => 4 * bN n + 80
theorem ts_bulk {R : List PyData → List Str → List PyData → Prop} {B : Nat} (hR : ∀ ds ws ps, R ds ws ps → PyData.bulkAll ps ≤ B) {d : PyData} {ws : List Str} {p : PyData} (h : TS R d ws p) : PyData.bulk p ≤ 2 * B + 80 := by
  have it : ∀ {ks : List Str} {as : List PyData}, Paired KindOk ks as → PyData.bulkAll (as.map pItem) ≤ as.length * 13 := fun hk => by
    have := (smk_all (pairs_smk hk)).2.2
    rw [List.length_map] at this
    exact this
  rcases h with ⟨u, ks, items, hm, rfl, rfl, rfl, hk, _⟩ | ⟨as, d1, d2, w1, w2, p1, p2, hk, rfl, rfl, r1, r2, rfl⟩ | ⟨j, d1, w1, p1, rfl, rfl, k1, k3, r1, rfl⟩
  · obtain ⟨a, b, c, l⟩ := shl_words _ hm
    have l : ks.length ≤ 4 := l
    have l1 := paired_len2 hk
    have := it hk
    have hu := bulk_str a
    simp only [PyData.bulk, PyData.bulkAll] at hu ⊢
    have hu : u.cps.size ≤ 12 := hu
    have l2 : items.length * 13 ≤ 4 * 13 := Nat.mul_le_mul_right _ (by omega)
    omega
  · have l1 : askK.length = as.length := paired_len2 hk
    have l4 : as.length = 4 := l1.symm
    have := it hk
    have b1 := hR _ _ _ r1
    have b2 := hR _ _ _ r2
    have hu := bulk_str (z := "if") wd_of
    rw [l4] at this
    simp only [PyData.bulk, PyData.bulkAll, bulk_app] at hu ⊢
    omega
  · have b1 := hR _ _ _ r1
    have hu := bulk_str (z := "repeat") wd_of
    simp only [PyData.bulk, PyData.bulkAll] at hu ⊢
    omega
theorem ts_bulk76 {R : List PyData → List Str → List PyData → Prop} {B : Nat} (hR : ∀ ds ws ps, R ds ws ps → PyData.bulkAll ps ≤ B) {d : PyData} {ws : List Str} {p : PyData} (h : TS R d ws p) : PyData.bulk p ≤ 2 * B + 76 := by
  have it : ∀ {ks : List Str} {as : List PyData}, Paired KindOk ks as → PyData.bulkAll (as.map pItem) ≤ as.length * 13 := fun hk => by
    have := (smk_all (pairs_smk hk)).2.2
    rw [List.length_map] at this
    exact this
  rcases h with ⟨u, ks, items, hm, rfl, rfl, rfl, hk, _⟩ | ⟨as, d1, d2, w1, w2, p1, p2, hk, rfl, rfl, r1, r2, rfl⟩ | ⟨j, d1, w1, p1, rfl, rfl, k1, k3, r1, rfl⟩
  · obtain ⟨a, b, c, l⟩ := shl_words _ hm
    have l : ks.length ≤ 4 := l
    have l1 := paired_len2 hk
    have := it hk
    have hu := bulk_str a
    simp only [PyData.bulk, PyData.bulkAll] at hu ⊢
    have hu : u.cps.size ≤ 12 := hu
    have l2 : items.length * 13 ≤ 4 * 13 := Nat.mul_le_mul_right _ (by omega)
    omega
  · have l1 : askK.length = as.length := paired_len2 hk
    have l4 : as.length = 4 := l1.symm
    have := it hk
    have b1 := hR _ _ _ r1
    have b2 := hR _ _ _ r2
    have hu := bulk_str (z := "if") wd_of
    rw [l4] at this
    simp only [PyData.bulk, PyData.bulkAll, bulk_app] at hu ⊢
    omega
  · have b1 := hR _ _ _ r1
    have hu := bulk_str (z := "repeat") wd_of
    simp only [PyData.bulk, PyData.bulkAll] at hu ⊢
    omega
theorem lt_bulk {m b : Nat} {R : PyData → List Str → PyData → Prop} (hR : ∀ d ws p, R d ws p → PyData.bulk p ≤ b) {ds : List PyData} {ws : List Str} {ps : List PyData} (h : LT m R ds ws ps) : PyData.bulkAll ps ≤ m * (b + 1) := by
  obtain ⟨l, qs, pa, hw, rfl⟩ := h
  have e := paired_len2 pa
  have : PyData.bulkAll (qs.map Prod.snd) ≤ qs.length * (b + 1) := by
    clear l e hw
    induction pa with
    | nil => simp [PyData.bulkAll]
    | @cons x y xs ys a t ih =>
      have h1 : PyData.bulk y.2 ≤ b := hR _ _ _ a
      show PyData.bulk y.2 + 1 + PyData.bulkAll (ys.map Prod.snd) ≤ (ys.length + 1) * (b + 1)
      rw [Nat.succ_mul]
      generalize ys.length * (b + 1) = X at ih ⊢
      omega
  exact Nat.le_trans this (Nat.mul_le_mul_right _ (by omega))
theorem tw_bulk : ∀ (n : Nat) {d : PyData} {ws : List Str} {p : PyData}, TW n d ws p → PyData.bulk p ≤ bN n
  | 0, d, ws, p, h => ts_bulk (B := 0) (fun _ _ _ z => z.elim) h
  | n + 1, d, ws, p, h => by
    have := ts_bulk76 (R := LT 2 (TW n)) (B := 2 * (bN n + 1)) (fun ds ws ps z => lt_bulk (R := TW n) (fun d ws p z => tw_bulk n z) z) h
    show _ ≤ 4 * bN n + 80
    omega
theorem lt_sm {ds : List PyData} {ws : List Str} {ps : List PyData} (h : LT 10 (TW 2) ds ws ps) : VG.sm (.tuple ps) = true ∧ (PyData.tuple ps).depth ≤ 10 ∧ PyData.bulkAll ps ≤ 20000 := by
  have hb := lt_bulk (R := TW 2) (fun d ws p z => tw_bulk 2 z) h
  obtain ⟨l, qs, pa, _, rfl⟩ := h
  have hs : ∀ e ∈ qs.map Prod.snd, Smk (smN 2).1 (smN 2).2 e := fun e he => by
    obtain ⟨q, hq, rfl⟩ := List.mem_map.mp he
    obtain ⟨d, _, hd⟩ := paired_mem2 pa hq
    exact tw_smk 2 hd
  obtain ⟨a, b, _⟩ := smk_all hs
  refine ⟨by simp only [VG.sm]; exact a, ?_, Nat.le_trans hb (by decide)⟩
  simp only [PyData.depth]
  have : (smN 2).1 = 6 := rfl
  omega
theorem both_sm {ds : List PyData} {ws : List Str} {ps : List PyData} (h : LT 10 (TW 2) ds ws ps) : Sm (.list [.tuple ps, .str (joined ws)]) := by
  obtain ⟨a, b, c⟩ := lt_sm h
  obtain ⟨jz, jo⟩ := joined_ok (lt_lw (R := TW 2) (R' := SW 2) (fun _ _ _ z => tw_sw 2 z) h).1
  refine ⟨?_, ?_, ?_⟩
  · simp only [VG.sm, VG.smAll, Bool.and_true, Bool.and_eq_true] at a ⊢
    exact ⟨a, jo⟩
  · simp only [PyData.depth, PyData.depthAll] at b ⊢
    omega
  · simp only [PyData.bulk, PyData.bulkAll]
    omega
section
variable {P : Program} {w : World} {K : PySem.W.Frag} {mg : Str → Option Value} {base : Heap} {C : Addr}

variable {m j : Nat} {f fL fI fA : Addr} {fd fdL fdI fdA : FuncData}
def spRAll (K : PySem.W.Frag) (C : Addr) : Sp := fun vs H Q _ => ∃ (p L : Addr) (W : List Str) (ds : List PyData) (qs : List PyData), vs = [.ref p] ∧ RdAt C H p L W 0 0 ∧ LT 10 (TW 2) ds W qs ∧ ds ≠ [] ∧
  ∀ (x : V) (H' : Hp), Dp K (wos [p] H') x (.tuple qs) → Exs [p] H H' → Q x H'
theorem ok_rAll (F : Fun K "all_steps" "Reader.all_steps" rAll f fd) (T : TxR K C) (ln : mg "len" = none)
    (GL : FnOk P w K mg base CX0 17 fL fdL ["self"] (spRList K C (LT 10 (TW 2)) 2)) (ML : Meth K C "_step_list" fL) (bL : Binds K fdL ["self"] [])
    : FnOk P w K mg base CX0 18 f fd ["self"] (spRAll K C) := by
  refine F.ok scRAll (fun vs H Q E h => ?_) (fun cdv A outer s H vs Q E hr h => ?_)
  · obtain ⟨p, _, _, _, _, rfl, _⟩ := h
    rfl
  · obtain ⟨p, L, W, ds, qs, rfl, hR, hl, h0, k⟩ := h
    have nd := scRAll.nd
    refine ⟨_, pss_cons (ps_set (i := 1) nd rfl (by first | exact Or.inl rfl | exact Or.inr rfl) (pe_meth0 (E := E0) (pv 0) T.cl ML GL hr bL .nil pass0))
        (pss_cons (ps_if (pt_cmpR op_lt (pe_fld (pv 0) rfl) (pe_callB call_len_seq (by rfl) ln PySem.boot_len (pa_cons (pe_fld (pv 0) rfl) pa_nil)) (nomark _)) pss_false pss_nil)
        (pss_one (ps_ret (pv 1)))), ?_⟩
    obtain ⟨dx, hp⟩ := hR.ins
    refine ⟨_, rfl, p, dx, _, rfl, hp, rF_no, p, L, W, 0, 0, ds, W, [], qs, rfl, hR, ⟨Nat.zero_le _, by simp⟩, hl, h0, by show ¬ ("" : Str) = ";"; decide +kernel, by decide, fun x G1 hx hR1 e1 => ?_⟩
    obtain ⟨dx1, hp1⟩ := hR1.ins
    obtain ⟨g1, g2, _⟩ := rF_get (L := L) (i := ((0 + W.length : Nat) : Int)) (o := 0)
    refine ⟨_, rfl, p, C, dx1, _, _, rfl, hp1, T.cl, T.nA, g2, _, rfl, p, C, dx1, _, _, rfl, hp1, T.cl, T.nW, g1, L, _, rfl, .inl (SqL.of hR1.ws), _, _, rfl, rfl, _, rfl, ?_⟩
    rw [List.length_map, decide_eq_false (by omega)]
    exact iteF ⟨_, rfl, k x G1 hx e1⟩
/-- read_steps of the text of steps -/
def spReadS (K : PySem.W.Frag) : Sp := fun vs H Q _ => ∃ (ds : List PyData) (ws : List Str) (qs : List PyData), vs = [.str (joined ws)] ∧ LT 10 (TW 2) ds ws qs ∧ ∀ (x : V) (H' : Hp), Dp K H' x (.tuple qs) → Same H H' → Q x H'
theorem scReadS : FnScope ["text", "reader"] ["text"] (defScope s_read_steps) := ⟨rfl, rfl, rfl, by decide +kernel, rfl, by decide +kernel, by decide +kernel⟩
theorem ok_readS (F : Fun K "read_steps" "read_steps" s_read_steps f fd) (T : TxR K C) (isi : mg "isinstance" = none) (ms : mg "str" = none) (mC : mg "Reader" = some (.ref C))
    (MI : Mk K C fI) (GI : FnOk P w K mg base CX0 1 fI fdI ["self", "words"] (spRInit K C)) (bI : Binds K fdI ["self", "words"] [])
    (GA : FnOk P w K mg base CX0 18 fA fdA ["self"] (spRAll K C)) (MA : Meth K C "all_steps" fA) (bA : Binds K fdA ["self"] [])
    : FnOk P w K mg base CX0 19 f fd ["text"] (spReadS K) := by
  refine F.ok scReadS (fun vs H Q E h => ?_) (fun cdv A outer s H vs Q E hr h => ?_)
  · obtain ⟨_, _, _, rfl, _⟩ := h
    rfl
  · obtain ⟨ds, ws, qs, rfl, hl, k⟩ := h
    have nd := scReadS.nd
    have hr2 : Room 2 _ := hr.mono (by decide)
    refine ⟨_, pss_cons (ps_if (pt_not (pt_val (pe_callB call_isi (by rfl) isi (by decide +kernel) (pa_cons (pv 0) (pa_cons (pe_bltn (v := .ty "str") (by rfl) ms (by decide +kernel) rfl) pa_nil))))) pss_false pss_nil)
      (pss_cons (ps_if (pt_not (pt_truth (pv 0) (fun _ => rfl))) (pss_one (ps_ret (pe_tup pa_nil))) pss_nil)
      (pss_cons (ps_set (i := 1) nd rfl (Or.inl rfl) (pe_make (E := E0) MI GI hr2 (by rfl) mC bI .nil pass0 (pa_cons (pe_split (pv 0) pe_str) pa_nil)))
      (pss_one (ps_ret (pe_meth0 (E := E0) (pv 1) T.cl MA GA hr bA .nil pass0))))), ?_⟩
    obtain ⟨jz, jo⟩ := joined_ok (lt_lw (R := TW 2) (R' := SW 2) (fun _ _ _ z => tw_sw 2 z) hl).1
    have jl : (joined ws).length ≤ 30030 := jz
    have jl2 : (joined ws).length ≤ sizeLine := Nat.le_trans jl (by decide)
    have gd := (lt_g (R := TW 2) (fun _ _ _ z => tw_g 2 z) hl).2
    refine ⟨_, rfl, _, _, _, _, true, rfl, .ty "str", .base (.str _), kit_ty (by decide +kernel), _, rfl, iteF ?_⟩
    refine ⟨_, rfl, _, ⟨jl2, rfl⟩, ?_⟩
    rcases lt_cases hl with ⟨rfl, rfl, rfl⟩ | ⟨h0, z, r, ews, _⟩
    · have e : (joined []).length = 0 := by decide +kernel
      rw [e]
      exact iteT ⟨(show 0 ≤ sizeLine by decide), fun T0 hT0 => k _ _ (.tup (SqT.of upd_same) .nil) (same_upd hT0)⟩
    · have ne : ws ≠ [] := by rw [ews]; simp
      have jn := joined_ne ne gd
      have e : ((((joined ws).length : Nat) : Int) != 0) = true := by
        rw [bne_iff_ne]
        omega
      rw [e]
      refine iteF ⟨_, rfl, ⟨_, rfl⟩, joined ws, _, rfl, rfl, by decide +kernel, Nat.le_trans (show (joined ws).length + 2 ≤ 40000 by omega) (by decide), fun L0 hL0 => ?_⟩
      rw [split_joined ne gd]
      intro p dx hp0 hd0 nd0
      have s1 := same_upd (o := .lst (ws.map V.str)) hL0
      have nL : L0 ≠ p := fun z => by rw [z, upd_same] at hp0; cases hp0
      have nLd : L0 ≠ dx := fun z => by rw [z, upd_same] at hd0; cases hd0
      refine ⟨p, dx, L0, ws, rfl, upd_same, SqL.of (by rw [upd_ne nL, upd_ne nLd, upd_same]), fun L H2 hR hL keep => ⟨rfl, ?_⟩⟩
      obtain ⟨dx2, hp2⟩ := hR.ins
      refine ⟨_, rfl, p, dx2, _, rfl, hp2, rF_no, p, L, ws, ds, qs, rfl, hR, hl, h0, fun x G hx eG => k x G (Dp.same wos_sub _ _ hx) fun b o hb => ?_⟩
      have b1 := s1 _ _ hb
      have nb : b ≠ p := fun z => by rw [z, hp0] at b1; cases b1
      have nbd : b ≠ dx := fun z => by rw [z, hd0] at b1; cases b1
      have b2 := keep b o nb (by rw [upd_ne nb, upd_ne nbd]; exact b1)
      exact Exs.on eG (fun z => nb (List.mem_singleton.mp z)) b2
/-- the reader's methods, all levels -/
structure RdM (K : PySem.W.Frag) (C : Addr) (fW fPs fIt fPt fI fR fS fL : Addr) (fdW fdPs fdIt fdPt fdI fdR fdS fdL : FuncData) : Prop where
  uW : Fun K "_word" "Reader._word" rWord fW fdW
  mW : Meth K C "_word" fW
  bW : Binds K fdW ["self"] []
  uPs : Fun K "_pass" "Reader._pass" rPass fPs fdPs
  mPs : Meth K C "_pass" fPs
  bPs : Binds K fdPs ["self", "word"] []
  uIt : Fun K "_item" "Reader._item" rItem fIt fdIt
  mIt : Meth K C "_item" fIt
  bIt : Binds K fdIt ["self", "kind"] []
  uPt : Fun K "_part" "Reader._part" rPart fPt fdPt
  mPt : Meth K C "_part" fPt
  bPt : Binds K fdPt ["self"] []
  uI : Fun K "_if" "Reader._if" rIf fI fdI
  mI : Meth K C "_if" fI
  bI : Binds K fdI ["self"] []
  uR : Fun K "_repeat" "Reader._repeat" rRep fR fdR
  mR : Meth K C "_repeat" fR
  bR : Binds K fdR ["self"] []
  uS : Fun K "_step" "Reader._step" rStep fS fdS
  mS : Meth K C "_step" fS
  bS : Binds K fdS ["self"] []
  uL : Fun K "_step_list" "Reader._step_list" rList fL fdL
  mL : Meth K C "_step_list" fL
  bL : Binds K fdL ["self"] []
theorem ok_rTop {fW fPs fIt fPt fI fR fS fL SD A1 : Addr} {fdW fdPs fdIt fdPt fdI fdR fdS fdL : FuncData} (M : RdM K C fW fPs fIt fPt fI fR fS fL fdW fdPs fdIt fdPt fdI fdR fdS fdL) (T : TxR K C) (ST : ShT K w mg SD) (mA : mg "ASKED" = some (.ref A1)) (hA : ∀ H, SqT K H A1 (askK.map V.str))
    {uM : Value} (mM : mg "MOST_OPEN" = some uM) (rM12 : RelV (.int 12) uM) (mi : mg "int" = none) (tpl : mg "tuple" = none)
    (GW : FnOk P w K mg base CX0 1 fW fdW ["self"] (spRWord C)) (GPs : FnOk P w K mg base CX0 2 fPs fdPs ["self", "word"] (spRPass C)) (GIt : FnOk P w K mg base CX0 7 fIt fdIt ["self", "kind"] (spRItem K C)) :
    FnOk P w K mg base CX0 17 fL fdL ["self"] (spRList K C (LT 10 (TW 2)) 2) := by
  have nv : ∀ {k : Nat} {g : Addr} {fd : FuncData} {m : Nat}, FnOk P w K mg base CX0 k g fd ["self"] (spRStep K C (TIf fun _ _ _ => False) m) ∧ FnOk P w K mg base CX0 k g fd ["self"] (spRStep K C (TRep fun _ _ _ => False) m) := fun {k g fd m} => by
    refine ⟨ok_never.imp fun vs H Q E h => ?_, ok_never.imp fun vs H Q E h => ?_⟩
    · obtain ⟨_, _, _, _, _, _, _, _, _, _, _, _, ⟨_, _, _, _, _, _, _, _, _, _, z, _⟩, _⟩ := h
      exact z
    · obtain ⟨_, _, _, _, _, _, _, _, _, _, _, _, ⟨_, _, _, _, _, _, _, _, z, _⟩, _⟩ := h
      exact z
  have s0 : FnOk P w K mg base CX0 8 fS fdS ["self"] (spRStep K C (TW 0) 0) := ok_rStep (R := fun _ _ _ => False) (j := 7) (by decide) M.uS T ST GW M.mW M.bW GIt M.mIt M.bIt nv.1 M.mI M.bI nv.2 M.mR M.bR
  have up : ∀ {n j : Nat}, 8 ≤ j → FnOk P w K mg base CX0 j fS fdS ["self"] (spRStep K C (TW n) n) → FnOk P w K mg base CX0 (j + 4) fS fdS ["self"] (spRStep K C (TW (n + 1)) (n + 1)) := fun {n j} hj GS => by
    have l := ok_rList (R := TW n) (mm := 2) (j := j) (by omega) (by decide) (fun _ _ _ z => tw_g n z) M.uL T tpl GW M.mW M.bW GS M.mS M.bS
    have pt := ok_rPart (R := LT 2 (TW n)) (j := j + 1) (by omega) (fun _ _ _ z => lt_cases z) M.uPt T mM rM12 GW M.mW M.bW GPs M.mPs M.bPs l M.mL M.bL
    have i := ok_rIf (R := LT 2 (TW n)) (j := j + 2) (by omega) M.uI T mA hA GPs M.mPs M.bPs GIt M.mIt M.bIt pt M.mPt M.bPt
    have r := ok_rRep (R := LT 2 (TW n)) (j := j + 2) (by omega) M.uR T mi GW M.mW M.bW GPs M.mPs M.bPs pt M.mPt M.bPt
    exact ok_rStep (R := LT 2 (TW n)) (j := j + 3) (by omega) M.uS T ST GW M.mW M.bW GIt M.mIt M.bIt i M.mI M.bI r M.mR M.bR
  have s1 := up (by decide) s0
  have s2 := up (by decide) s1
  exact ok_rList (R := TW 2) (mm := 10) (j := 16) (by decide) (by decide) (fun _ _ _ z => tw_g 2 z) M.uL T tpl GW M.mW M.bW s2 M.mS M.bS
end
end Lw

set_option maxRecDepth 100000
set_option linter.unusedVariables false
namespace Lw
open PySem PySem.Spec PyProof.Rows L2 VG
/-! ### drawn steps without steps in them -/
section
variable {X : Cx}
theorem pe_if2 {c a b : Expr} {pos : Pos} {tA : TT} {u1 u2 : V} (hc : PT X c tA) (ha : PE X a (fun _ H Q => Q u1 H)) (hb : PE X b (fun _ H Q => Q u2 H)) : PE X (.IfExp c a b pos) (fun σ H Q => tA σ H fun _ H' => ∀ u, (u = u1 ∨ u = u2) → Q u H') := by
  refine ⟨fun pins s σ H Q I h => ?_⟩
  refine wpAny_IfExp (thn (hc.run pins s σ H _ I h) fun d s1 ⟨H1, I1, q1⟩ => ?_)
  cases d with
  | true => exact ha.run pins s1 σ H1 Q I1 (q1 _ (.inl rfl))
  | false => exact hb.run pins s1 σ H1 Q I1 (q1 _ (.inr rfl))
theorem pt_imp {c : Expr} {t t' : TT} (h : PT X c t) (f : ∀ σ H Q, t' σ H Q → t σ H Q) : PT X c t' := ⟨fun pins s σ H Q I q => h.run pins s σ H Q I (f σ H Q q)⟩
theorem pe_imp {c : Expr} {t t' : TE} (h : PE X c t) (f : ∀ σ H Q, t' σ H Q → t σ H Q) : PE X c t' := ⟨fun pins s σ H Q I q => h.run pins s σ H Q I (f σ H Q q)⟩
end
theorem all_cons {α : Type} {p : α → Prop} {a : α} {l : List α} (h : p a) (t : ∀ e ∈ l, p e) : ∀ e ∈ a :: l, p e := List.forall_mem_cons.mpr ⟨h, t⟩
theorem all_nil {α : Type} {p : α → Prop} : ∀ e ∈ ([] : List α), p e := fun _ h => by cases h
structure LeafN (d : PyData) : Prop where
  ex : ∃ (u : Str) (items : List PyData), d = .tuple (.str u :: items) ∧ wdB u ∧ u ≠ "if" ∧ u ≠ "repeat" ∧ items.length ≤ 4 ∧ (∀ e ∈ items, Atom e) ∧
    (u = "forget" → ∃ z r, items = .str z :: r ∧ nmB z) ∧ (u = "same" → ∃ y z r, items = .str y :: .str z :: r ∧ nmB z) ∧ (u = "place" → ∃ z r, items = .str z :: r ∧ nmB z)
  tl : ∃ ws p, TLeaf d ws p
/-- a step with at most n about one another in it -/
def StD (n : Nat) (d : PyData) : Prop := ∃ ws p, TW n d ws p
theorem LeafN.std {d : PyData} (h : LeafN d) : StD 0 d := by
  obtain ⟨ws, p, h⟩ := h.tl
  exact ⟨ws, p, .inl h⟩
theorem StD.up {n : Nat} {d : PyData} (h : StD n d) : StD (n + 1) d := let ⟨_, _, z⟩ := h; ⟨_, _, tw_up n z⟩
theorem lw_of {n m : Nat} {ds : List PyData} (h : ∀ d ∈ ds, StD n d) (hm : ds.length ≤ m) : ∃ ws ps, LT m (TW n) ds ws ps := by
  have : ∃ qs : List (List Str × PyData), Paired (fun d q => TW n d q.1 q.2) ds qs := by
    clear hm
    induction ds with
    | nil => exact ⟨[], .nil⟩
    | cons d t ih =>
      obtain ⟨qs, hw⟩ := ih fun d hd => h d (List.mem_cons_of_mem _ hd)
      obtain ⟨ws, p, hd⟩ := h d List.mem_cons_self
      exact ⟨(ws, p) :: qs, .cons hd hw⟩
  obtain ⟨qs, pa⟩ := this
  exact ⟨_, _, hm, qs, pa, rfl, rfl⟩
def hdB (u : Str) : Bool := decide (u ≠ "forget") && (decide (u ≠ "same") && decide (u ≠ "place"))
theorem leafN_of {u : Str} {ks : List Str} {items : List PyData} (hm : (u, ks) ∈ SHL) (hu : hdB u = true) (hk : Paired KindOk ks items) : LeafN (.tuple (.str u :: items)) := by
  unfold hdB at hu
  simp only [Bool.and_eq_true, decide_eq_true_eq] at hu
  obtain ⟨h5, h6, h7⟩ := hu
  obtain ⟨a, b, c, l⟩ := shl_words _ hm
  have l : ks.length ≤ 4 := l
  have l1 := paired_len2 hk
  exact ⟨⟨u, items, rfl, a, b, c, by omega, kinds_atoms hk, fun e => absurd e h5, fun e => absurd e h6, fun e => absurd e h7⟩, _, _, u, ks, items, hm, rfl, rfl, rfl, hk, fun e => absurd e h6⟩
theorem leafN_forget {z : Str} (h : nmB z) : LeafN (.tuple [.str "forget", .str z]) :=
  ⟨⟨"forget", [.str z], rfl, wd_of, by decide +kernel, by decide +kernel, by simp, all_cons (atom_str (nm_wd h)) all_nil, fun _ => ⟨z, [], rfl, h⟩, fun e => absurd e (by decide +kernel), fun e => absurd e (by decide +kernel)⟩,
    _, _, "forget", ["name"], [.str z], by decide +kernel, rfl, rfl, rfl, .cons (.name h) .nil, fun e => absurd e (by decide +kernel)⟩
theorem leafN_same {y z : Str} (g : nmB y) (h : nmB z) (n : y ≠ z) : LeafN (.tuple [.str "same", .str y, .str z]) :=
  ⟨⟨"same", [.str y, .str z], rfl, wd_of, by decide +kernel, by decide +kernel, by simp, all_cons (atom_str (nm_wd g)) (all_cons (atom_str (nm_wd h)) all_nil), fun e => absurd e (by decide +kernel), fun _ => ⟨y, z, [], rfl, h⟩, fun e => absurd e (by decide +kernel)⟩,
    _, _, "same", ["name", "name"], [.str y, .str z], by decide +kernel, rfl, rfl, rfl, .cons (.name g) (.cons (.name h) .nil), fun _ => ⟨y, z, rfl, n⟩⟩
theorem leafN_place {z y : Str} {d e : PyData} (h : nmB z) (g : nmB y) (hd : LenD d) (he : LenD e) : LeafN (.tuple [.str "place", .str z, .str y, d, e]) :=
  ⟨⟨"place", [.str z, .str y, d, e], rfl, wd_of, by decide +kernel, by decide +kernel, by simp, all_cons (atom_str (nm_wd h)) (all_cons (atom_str (nm_wd g)) (all_cons hd.atom (all_cons he.atom all_nil))), fun e => absurd e (by decide +kernel), fun e => absurd e (by decide +kernel), fun _ => ⟨z, _, rfl, h⟩⟩,
    _, _, "place", ["new", "name", "length", "length"], [.str z, .str y, d, e], by decide +kernel, rfl, rfl, rfl, .cons (.new h) (.cons (.name g) (.cons (.length hd) (.cons (.length he) .nil))), fun e => absurd e (by decide +kernel)⟩
theorem low_top {t b : Int} (h : 0 < t) : 0 < (low t b).1 := by
  have hg : 0 < Nat.gcd t.natAbs b.natAbs := Nat.gcd_pos_of_pos_left _ (by omega)
  have hd : (Nat.gcd t.natAbs b.natAbs : Int) ∣ t := Int.ofNat_dvd_left.mpr (Nat.gcd_dvd_left _ _)
  show 0 < t / (Nat.gcd t.natAbs b.natAbs : Int)
  generalize Nat.gcd t.natAbs b.natAbs = g at hg hd ⊢
  exact Int.ediv_pos_of_pos_of_dvd h (by omega) hd
theorem bare_len {s : Int × Int} {g : PyData} (l : Ln s) (h : bareOf s g) : LenD g ∧ (ratD g).1 = s.1 := by
  rcases h with rfl | ⟨e, rfl⟩
  · exact ⟨⟨bare_ok l.rat (.inl rfl), l.nn, l.top, l.den⟩, rfl⟩
  · exact ⟨⟨rfl, l.nn, l.top, show (1 : Int) ≤ 60 by decide⟩, rfl⟩
theorem lay_wd {z : Str} (h : layB z) : wdB z := by
  rcases h with rfl | rfl
  · exact wd_of
  · exact wd_of
theorem bare_atom {s : Int × Int} {g : PyData} (l : Ln s) (h : bareOf s g) : Atom g := by
  rcases h with rfl | ⟨e, rfl⟩
  · exact .inr ⟨bare_ok l.rat (.inl rfl), l.nn, l.top, l.den⟩
  · exact .inr ⟨rfl, l.nn, l.top, show (1 : Int) ≤ 60 by decide⟩
section
variable {P : Program} {w : World} {K : PySem.W.Frag} {mg : Str → Option Value} {base : Heap}
theorem leaf_at {G : Hp} {p q T : Addr} {cells : List Int} {xs : List V} {ds : List PyData} (S : Src G p q cells) (hd : DpAll K (wos [p] G) xs ds) (hT : G T = none) :
    Dp K (wos [p] (upd G T (.tup xs))) (.ref T) (.tuple ds) ∧ Src (upd G T (.tup xs)) p q cells ∧ Exs [p] G (upd G T (.tup xs)) := by
  have n := S.ne1 hT
  have e : Exs [p] G (upd G T (.tup xs)) := Exs.of (same_upd hT)
  refine ⟨.tup (SqT.of ?_) (DpAll.same e _ _ hd), S.over n (S.ne2 hT), e⟩
  rw [wos_out (fun y => n (List.mem_singleton.mp y)), upd_same]
/-- the law's drawing helpers -/
structure DH (P : Program) (w : World) (K : PySem.W.Frag) (mg : Str → Option Value) (base : Heap) (fD fY fO fN fB fL : Addr) (fdD fdY fdO fdN fdB fdL : FuncData) : Prop where
  GD : FnOk P w K mg base CX0 1 fD fdD ["_law_src", "_law_many"] spDraw
  mD : mg "_law_draw" = some (.ref fD)
  kD : PySem.W.keepIn K (.ref fD) = true
  bD : Binds K fdD ["_law_src", "_law_many"] []
  GY : FnOk P w K mg base CX0 2 fY fdY ["_law_src", "_law_layers"] (spLay K)
  mY : mg "_law_layer" = some (.ref fY)
  kY : PySem.W.keepIn K (.ref fY) = true
  bY : Binds K fdY ["_law_src", "_law_layers"] []
  GO : FnOk P w K mg base CX0 2 fO fdO ["_law_src", "_law_some"] (spOf K)
  mO : mg "_law_of" = some (.ref fO)
  kO : PySem.W.keepIn K (.ref fO) = true
  bO : Binds K fdO ["_law_src", "_law_some"] []
  GN : FnOk P w K mg base CX0 2 fN fdN ["_law_src"] (spLength K)
  mN : mg "_law_length" = some (.ref fN)
  kN : PySem.W.keepIn K (.ref fN) = true
  bN : Binds K fdN ["_law_src"] []
  GB : FnOk P w K mg base CX0 2 fB fdB ["_law_src", "_law_one"] (spBare K)
  mB : mg "_law_bare" = some (.ref fB)
  kB : PySem.W.keepIn K (.ref fB) = true
  bB : Binds K fdB ["_law_src", "_law_one"] []
  GL : FnOk P w K mg base CX0 1 fL fdL ["_law_top", "_law_bottom"] spLowest
  mL : mg "_law_low" = some (.ref fL)
  kL : PySem.W.keepIn K (.ref fL) = true
  bL : Binds K fdL ["_law_top", "_law_bottom"] []
variable {fD fY fO fN fB fL : Addr} {fdD fdY fdO fdN fdB fdL : FuncData}
/-- a list of names that is not the source -/
structure Nams (K : PySem.W.Frag) (p : Addr) (H : Hp) (L : Addr) (zs : List Str) : Prop where
  sq : SqL K (wos [p] H) L (tVs zs)
  wd : ∀ z ∈ zs, nmB z
  few : zs.length ≤ 20
theorem Nams.on {p L : Addr} {H G : Hp} {zs : List Str} (h : Nams K p H L zs) (e : Exs [p] H G) : Nams K p G L zs := ⟨Same.seq e h.sq, h.wd, h.few⟩
theorem Nams.at_ {p L : Addr} {H : Hp} {zs : List Str} (h : Nams K p H L zs) : SqL K H L (tVs zs) := Same.seq wos_sub h.sq
/-- names != [] -/
theorem nams_ne {p L E : Addr} {H : Hp} {zs : List Str} {Q : Bool → Hp → Prop} (h : Nams K p H L zs) (hE : H E = none) (q : Q (!decide (zs = [])) (upd H E (.lst []))) : rNeD K (.ref L) (.ref E) (upd H E (.lst [])) fun x H1 => ∃ c, x = .bl c ∧ Q c H1 := by
  refine ⟨.list (zs.map PyData.str), .list [], .lst (Same.seq (same_upd hE) h.at_) (dp_strs _), .lst (SqL.of upd_same) .nil, strs_shaped fun w hw => nm_wd (h.wd w hw), strs_shaped (ws := []) (by simp), _, rfl, ?_⟩
  rw [strs_eqv]
  exact q
abbrev NSm : List Str := ["_law_src", "_law_names_here", "_law_fresh", "_law_layers", "_law_way", "_law_layer_here", "_law_a", "_law_b"]
theorem scSome : FnScope NSm ["_law_src", "_law_names_here", "_law_fresh", "_law_layers"] (defScope s__law_some_step) := ⟨rfl, rfl, rfl, by decide +kernel, rfl, by decide +kernel, by decide +kernel⟩
def spSome (K : PySem.W.Frag) : Sp := fun vs H Q _ => ∃ (p q L : Addr) (cells : List Int) (zs : List Str) (fr : Str) (m : Int), vs = [.ref p, .ref L, .str fr, .int m] ∧ Src H p q cells ∧ Nams K p H L zs ∧ nmB fr ∧ 1 ≤ m ∧ m ≤ 2 ∧
  ∀ (x : V) (d : PyData) (H' : Hp), LeafN d → Dp K (wos [p] H') x d → Src H' p q cells → Exs [p] H H' → Q x H'
/-- two tests of numbers -/
abbrev tTwo (i j : Nat) : TT := fun σ H Q => ∃ a b : Int, σ[i]? = some (some (.int a)) ∧ σ[j]? = some (some (.int b)) ∧ ∀ c, Q c H
theorem ok_some {f : Addr} {fd : FuncData} (F : Fun K "_law_some_step" "_law_some_step" s__law_some_step f fd) (D : DH P w K mg base fD fY fO fN fB fL fdD fdY fdO fdN fdB fdL) :
    FnOk P w K mg base CX0 3 f fd ["_law_src", "_law_names_here", "_law_fresh", "_law_layers"] (spSome K) := by
  obtain ⟨GD, mD, kD, bD, GY, mY, kY, bY, GO, mO, kO, bO, GN, mN, kN, bN, GB, mB, kB, bB, GL, mL, kL, bL⟩ := D
  refine F.ok scSome (fun vs H Q E h => ?_) (fun cdv A outer s H vs Q E hr h => ?_)
  · obtain ⟨p, q, L, cells, zs, fr, m, rfl, _⟩ := h
    rfl
  · obtain ⟨p, q, L, cells, zs, fr, m, rfl, hS, hN, hf, m1, m2, k⟩ := h
    have nd := scSome.nd
    have hr1 : Room 1 _ := hr.mono (by decide)
    have hr2 : Room 2 _ := hr.mono (by decide)
    refine ⟨_, C8.pss_cut (ps_par (i := 4) (j := 5) (by rfl) nd rfl rfl (by decide) rfl rfl (pa_cons (pe_call GD hr1 (by rfl) mD kD bD .nil pass0 (pa_cons (pv 0) (pa_cons (pe_int) pa_nil))) (pa_cons (pe_call GY hr2 (by rfl) mY kY bY .nil pass0 (pa_cons (pv 0) (pa_cons (pv 3) pa_nil))) pa_nil)) (by rfl))
        (C8.pss_cut (ps_if (pt_cmpR (op_neD hr.units) (pv 1) (pe_lst pa_nil) (nomark _))
        (pss_cons (ps_par (i := 6) (j := 7) (by rfl) nd rfl rfl (by decide) rfl rfl (pa_cons (pe_call GO hr2 (by rfl) mO kO bO .nil pass0 (pa_cons (pv 0) (pa_cons (pv 1) pa_nil))) (pa_cons (pe_call GO hr2 (by rfl) mO kO bO .nil pass0 (pa_cons (pv 0) (pa_cons (pv 1) pa_nil))) pa_nil)) (by rfl))
        (pss_cons (ps_if (pt_cmpR op_lt (pv 4) (pe_int) (nomark _))
        (pss_one (ps_ret (pe_tup (pa_cons (pe_if2 (pt_imp (t' := tTwo 4 3) (PW.pt (pw_and (pt_cmpR op_eq (pv 4) (pe_int) (nomark _)) (pw_and1 (pt_cmpR op_eq (pv 3) (pe_int) (nomark _))))) (fun σ H Q ⟨a, b, h1, h2, c⟩ => ⟨_, h1, rfl, _, rfl, ite2 (fun _ => ⟨_, h2, rfl, _, rfl, c _⟩) (fun _ => c _)⟩)) (pe_str) (pe_str)) (pa_cons (pv 5) (pa_cons (pv 6) (pa_cons (pv 7) (pa_cons (pe_call GB hr2 (by rfl) mB kB bB .nil pass0 (pa_cons (pv 0) (pa_cons (pe_call GN hr2 (by rfl) mN kN bN .nil pass0 (pa_cons (pv 0) pa_nil)) pa_nil))) pa_nil)))))))) pss_nil)
        (pss_cons (ps_if (pt_cmpR op_eq (pv 4) (pe_int) (nomark _))
        (pss_one (ps_ret (pe_tup (pa_cons (pe_str) (pa_cons (pv 2) (pa_cons (pv 6) (pa_cons (pe_call GB hr2 (by rfl) mB kB bB .nil pass0 (pa_cons (pv 0) (pa_cons (pe_call GN hr2 (by rfl) mN kN bN .nil pass0 (pa_cons (pv 0) pa_nil)) pa_nil))) (pa_cons (pe_call GB hr2 (by rfl) mB kB bB .nil pass0 (pa_cons (pv 0) (pa_cons (pe_call GN hr2 (by rfl) mN kN bN .nil pass0 (pa_cons (pv 0) pa_nil)) pa_nil))) pa_nil)))))))) pss_nil)
        (pss_cons (ps_if (PW.pt (pw_and (pt_cmpR op_eq (pv 4) (pe_int) (nomark _)) (pw_and1 (pt_cmpR op_ne (pv 6) (pv 7) (nomark _)))))
        (pss_one (ps_ret (pe_tup (pa_cons (pe_str) (pa_cons (pv 6) (pa_cons (pv 7) pa_nil)))))) pss_nil)
        (pss_one (ps_if (pt_cmpR op_eq (pv 4) (pe_int) (nomark _))
        (pss_one (ps_ret (pe_tup (pa_cons (pe_str) (pa_cons (pv 6) pa_nil))))) pss_nil)))))) pss_nil)
        (pss_cons (ps_if (pt_cmpR op_lt (pv 4) (pe_int) (nomark _))
        (pss_one (ps_ret (pe_tup (pa_cons (pe_str) (pa_cons (pv 5) (pa_cons (pe_call GB hr2 (by rfl) mB kB bB .nil pass0 (pa_cons (pv 0) (pa_cons (pe_call GN hr2 (by rfl) mN kN bN .nil pass0 (pa_cons (pv 0) pa_nil)) pa_nil))) pa_nil)))))) pss_nil)
        (pss_cons (ps_if (pt_cmpR op_eq (pv 4) (pe_int) (nomark _))
        (pss_one (ps_ret (pe_tup (pa_cons (pe_str) (pa_cons (pv 5) (pa_cons (pe_call GB hr2 (by rfl) mB kB bB .nil pass0 (pa_cons (pv 0) (pa_cons (pe_call GL hr1 (by rfl) mL kL bL .nil pass0 (pa_cons (pe_op op_add pe_int (pe_call GD hr1 (by rfl) mD kD bD .nil pass0 (pa_cons (pv 0) (pa_cons (pe_int) pa_nil)))) (pa_cons (pe_op op_add pe_int (pe_call GD hr1 (by rfl) mD kD bD .nil pass0 (pa_cons (pv 0) (pa_cons (pe_int) pa_nil)))) pa_nil))) pa_nil))) pa_nil)))))) pss_nil)
        (pss_one (ps_ret (pe_ifExp (pt_cmpR op_eq (pv 4) (pe_int) (nomark _)) (pe_tup (pa_cons (pe_str) pa_nil)) (pe_tup (pa_cons (pe_str) (pa_cons (pv 5) pa_nil))))))))), ?_⟩
    have fin : ∀ {G : Hp} {T : Addr} {xs : List V} {ds : List PyData}, LeafN (.tuple ds) → DpAll K (wos [p] G) xs ds → Src G p q cells → Exs [p] H G → G T = none → Q (.ref T) (upd G T (.tup xs)) := fun {G T xs ds} hl hd S e hT => by
      obtain ⟨h1, h2, h3⟩ := leaf_at S hd hT
      exact k _ _ _ hl h1 h2 (e.trans h3)
    have sz : ∀ {n : Nat}, n ≤ 5 → n ≤ sizeLine := fun h => Nat.le_trans h (by decide)
    refine ⟨fun σ G => ∃ (way : Int) (lz : Str), σ = [some (.ref p), some (.ref L), some (.str fr), some (.int m), some (.int way), some (.str lz), none, none] ∧ layB lz ∧ Src G p q cells ∧ Exs [p] H G, ?_, ?_⟩
    · exact ⟨_, rfl, p, q, cells, 12, rfl, hS, by decide, by decide, fun way G1 a1 c1 S1 B1 => ⟨_, rfl, _, rfl, p, q, cells, m, rfl, S1, m1, m2, fun lz G2 hlz S2 e2 => ⟨_, _, rfl, way, lz, rfl, hlz, S2, (But.exs B1).trans e2⟩⟩⟩
    · rintro σ G ⟨way, lz, rfl, hlz, S0, e0⟩
      refine ⟨fun σ G => ∃ (o6 o7 : Option V), σ = [some (.ref p), some (.ref L), some (.str fr), some (.int m), some (.int way), some (.str lz), o6, o7] ∧ Src G p q cells ∧ Exs [p] H G, ?_, ?_⟩
      · refine ⟨_, rfl, by decide, fun E hE => nams_ne (hN.on e0) hE ?_⟩
        have S1 : Src (upd G E (.lst [])) p q cells := S0.over (S0.ne1 hE) (S0.ne2 hE)
        have e1 : Exs [p] H (upd G E (.lst [])) := e0.trans (Exs.of (same_upd hE))
        by_cases z : zs = []
        · rw [decide_eq_true z]
          exact iteF ⟨_, _, rfl, S1, e1⟩
        · rw [decide_eq_false z]
          have l0 : 0 < (tVs zs).length := by
            rw [List.length_map]
            exact List.length_pos_iff.mpr z
          have l1 : (tVs zs).length < 1000000 := by
            rw [List.length_map]
            have := hN.few
            omega
          have nam : ∀ {i : Nat} {x : V}, (tVs zs)[i]? = some x → ∃ z, x = .str z ∧ nmB z := fun {i x} h => by
            rw [List.getElem?_map] at h
            obtain ⟨z, hz, rfl⟩ := Option.map_eq_some_iff.mp h
            exact ⟨z, rfl, hN.wd z (List.mem_of_getElem? hz)⟩
          refine iteT ⟨_, rfl, _, rfl, p, q, cells, _, rfl, S1, .inl ⟨L, tVs zs, rfl, fun H' B => .inl (hN.on (e1.trans (But.exs B))).at_, l0, l1, fun i x G2 hx S2 B2 => ?_⟩⟩
          obtain ⟨za, rfl, wa⟩ := nam hx
          have e2 := e1.trans (But.exs B2)
          refine ⟨_, rfl, _, rfl, p, q, cells, _, rfl, S2, .inl ⟨L, tVs zs, rfl, fun H' B => .inl (hN.on (e2.trans (But.exs B))).at_, l0, l1, fun i x G3 hx S3 B3 => ?_⟩⟩
          obtain ⟨zb, rfl, wb⟩ := nam hx
          have e3 := e2.trans (But.exs B3)
          refine ⟨_, _, rfl, ?_⟩
          -- way < 4
          refine ⟨_, rfl, _, _, rfl, rfl, _, rfl, ite2 (fun _ => ?_) (fun _ => ?_)⟩
          · refine ⟨_, _, rfl, rfl, fun _ u hu => ?_⟩
            refine ⟨_, rfl, _, rfl, _, rfl, _, rfl, _, rfl, p, q, cells, rfl, S3, fun T s G4 nT hT ln S4 e4 => ⟨p, q, cells, _, s, rfl, S4, ratP_dp (SqT.of hT), fun x g G5 hb hx S5 e5 => ⟨sz (by simp), fun T hT => ?_⟩⟩⟩
            have ha : Paired KindOk askK [PyData.str lz, .str za, .str zb, g] := .cons (.layer hlz) (.cons (.name wa) (.cons (.name wb) (.cons (.length (bare_len ln hb).1) .nil)))
            have hx := Dp.wosT S5.lsts _ _ (bare_noL hb) hx
            rcases hu with rfl | rfl
            · exact fin (leafN_of (u := "ride") (ks := askK) (by decide +kernel) (by decide +kernel) ha) (.cons (.str _) (.cons (.str _) (.cons (.str _) (.cons (.str _) (.cons hx .nil))))) S5 ((e3.trans e4).trans e5) hT
            · exact fin (leafN_of (u := "road") (ks := askK) (by decide +kernel) (by decide +kernel) ha) (.cons (.str _) (.cons (.str _) (.cons (.str _) (.cons (.str _) (.cons hx .nil))))) S5 ((e3.trans e4).trans e5) hT
          -- way == 4
          refine ⟨_, rfl, rfl, _, rfl, ite2 (fun _ => ?_) (fun _ => ?_)⟩
          · refine ⟨_, rfl, _, rfl, _, rfl, _, rfl, p, q, cells, rfl, S3, fun T s G4 nT hT ln S4 e4 => ⟨p, q, cells, _, s, rfl, S4, ratP_dp (SqT.of hT), fun x g G5 hb hx S5 e5 => ?_⟩⟩
            have hx := Dp.wosT S5.lsts _ _ (bare_noL hb) hx
            refine ⟨_, rfl, _, rfl, p, q, cells, rfl, S5, fun T s2 G6 nT hT ln2 S6 e6 => ⟨p, q, cells, _, s2, rfl, S6, ratP_dp (SqT.of hT), fun y g2 G7 hb2 hy S7 e7 => ⟨sz (by simp), fun T hT => ?_⟩⟩⟩
            have hx := Dp.same (e6.trans e7) _ _ hx
            have hy := Dp.wosT S7.lsts _ _ (bare_noL hb2) hy
            exact fin (leafN_place hf wa (bare_len ln hb).1 (bare_len ln2 hb2).1) (.cons (.str _) (.cons (.str _) (.cons (.str _) (.cons hx (.cons hy .nil))))) S7 ((((e3.trans e4).trans e5).trans e6).trans e7) hT
          -- way == 5 and a != b
          refine ⟨_, rfl, rfl, _, rfl, ?_⟩
          have nxt : ∀ (D : Ends) , True := fun _ => trivial
          refine ite2 (fun _ => ?_) (fun _ => ?_)
          · refine ⟨_, rfl, _, rfl, rfl, _, rfl, ite2 (fun nab => ?_) (fun _ => ?_)⟩
            · exact ⟨_, rfl, _, rfl, sz (by simp), fun T hT => fin (leafN_same wa wb fun e => by rw [e] at nab; simp at nab) (.cons (.str _) (.cons (.str _) (.cons (.str _) .nil))) S3 e3 hT⟩
            · refine ⟨_, rfl, rfl, _, rfl, ite2 (fun _ => ?_) (fun _ => ?_)⟩
              · exact ⟨_, rfl, sz (by simp), fun T hT => fin (leafN_forget wa) (.cons (.str _) (.cons (.str _) .nil)) S3 e3 hT⟩
              · exact ⟨_, _, rfl, S3, e3⟩
          · refine iteF ⟨_, rfl, rfl, _, rfl, ite2 (fun _ => ?_) (fun _ => ?_)⟩
            · exact ⟨_, rfl, sz (by simp), fun T hT => fin (leafN_forget wa) (.cons (.str _) (.cons (.str _) .nil)) S3 e3 hT⟩
            · exact ⟨_, _, rfl, S3, e3⟩
      · rintro σ G ⟨o6, o7, rfl, S3, e3⟩
        refine ⟨_, rfl, _, _, rfl, rfl, _, rfl, ite2 (fun _ => ?_) (fun _ => ?_)⟩
        · refine ⟨_, rfl, _, rfl, _, rfl, p, q, cells, rfl, S3, fun T s G4 nT hT ln S4 e4 => ⟨p, q, cells, _, s, rfl, S4, ratP_dp (SqT.of hT), fun x g G5 hb hx S5 e5 => ⟨sz (by simp), fun T hT => ?_⟩⟩⟩
          have hx := Dp.wosT S5.lsts _ _ (bare_noL hb) hx
          exact fin (leafN_of (u := "cap") (ks := ["layer", "length"]) (by decide +kernel) (by decide +kernel) (.cons (.layer hlz) (.cons (.length (bare_len ln hb).1) .nil))) (.cons (.str _) (.cons (.str _) (.cons hx .nil))) S5 ((e3.trans e4).trans e5) hT
        refine ⟨_, rfl, rfl, _, rfl, ite2 (fun _ => ?_) (fun _ => ?_)⟩
        · refine ⟨_, rfl, _, rfl, _, rfl, p, q, cells, 5, rfl, S3, by decide, by decide, fun d1 G4 a1 c1 S4 B4 => ?_⟩
          refine ⟨_, _, rfl, rfl, _, rfl, p, q, cells, 3, rfl, S4, by decide, by decide, fun d2 G5 a2 c2 S5 B5 => ?_⟩
          refine ⟨_, _, rfl, rfl, _, _, rfl, by omega, Nat.lt_of_lt_of_le (show (1 + d2).natAbs < 10 by omega) (Nat.le_of_lt (by decide +kernel)), fun T hT => ?_⟩
          have ln := low_ln (t := 1 + d1) (b := d2) (by omega) (by omega) a2 (by omega)
          refine ⟨p, q, cells, _, low (1 + d1) (1 + d2), rfl, S5.over (S5.ne1 hT) (S5.ne2 hT), ratP_dp (SqT.of upd_same), fun x g G6 hb hx S6 e6 => ⟨sz (by simp), fun T2 hT2 => ?_⟩⟩
          have hx := Dp.wosT S6.lsts _ _ (bare_noL hb) hx
          exact fin (leafN_of (u := "scale") (ks := ["layer", "scale"]) (by decide +kernel) (by decide +kernel) (.cons (.layer hlz) (.cons (.scale (bare_len ln hb).1 (by rw [(bare_len ln hb).2]; exact low_top (by omega))) .nil))) (.cons (.str _) (.cons (.str _) (.cons hx .nil))) S6 ((((e3.trans (But.exs B4)).trans (But.exs B5)).trans (Exs.of (same_upd hT))).trans e6) hT2
        refine ⟨_, rfl, rfl, _, rfl, ite2 (fun _ => ?_) (fun _ => ?_)⟩
        · exact ⟨sz (by simp), fun T hT => fin (leafN_of (u := "turn") (ks := []) (by decide +kernel) (by decide +kernel) .nil) (.cons (.str _) .nil) S3 e3 hT⟩
        · exact ⟨_, rfl, sz (by simp), fun T hT => fin (leafN_of (u := "round") (ks := ["layer"]) (by decide +kernel) (by decide +kernel) (.cons (.layer hlz) .nil)) (.cons (.str _) (.cons (.str _) .nil)) S3 e3 hT⟩
end
end Lw

set_option maxRecDepth 100000
set_option linter.unusedVariables false
namespace Lw
open PySem PySem.Spec PyProof.Rows L2 VG
section
variable {P : Program} {w : World} {K : PySem.W.Frag} {mg : Str → Option Value} {base : Heap}
/-! ### the names behind a step -/
abbrev NEn : List Str := ["_law_names_here", "_law_step", "_law_gone", "_law_left", "_law_name"]
theorem scEnds : FnScope NEn ["_law_names_here", "_law_step"] (defScope s__law_ends) := ⟨rfl, rfl, rfl, by decide +kernel, rfl, by decide +kernel, by decide +kernel⟩
def spEnds (K : PySem.W.Frag) : Sp := fun vs H Q _ => ∃ (L : Addr) (x : V) (zs : List Str) (d : PyData), vs = [.ref L, x] ∧ SqL K H L (tVs zs) ∧ (∀ z ∈ zs, nmB z) ∧ zs.length ≤ 20 ∧ Dp K H x d ∧ LeafN d ∧
  ∀ (D : Addr) (zs' : List Str) (H' : Hp), H D = none → Same H H' → H' D = some (.lst (tVs zs')) → (∀ z ∈ zs', nmB z) → zs'.length ≤ zs.length + 1 → Q (.ref D) H'
theorem flat_strs (ws : List Str) : (tVs ws).all flatV = true := by
  rw [List.all_eq_true]
  intro v hv
  obtain ⟨z, _, rfl⟩ := List.mem_map.mp hv
  rfl
theorem ok_ends {f : Addr} {fd : FuncData} (F : Fun K "_law_ends" "_law_ends" s__law_ends f fd) (srt : mg "sorted" = none) : FnOk P w K mg base CX0 1 f fd ["_law_names_here", "_law_step"] (spEnds K) := by
  refine F.ok scEnds (fun vs H Q E h => ?_) (fun cdv A outer s H vs Q E hr h => ?_)
  · obtain ⟨L, x, zs, d, rfl, _⟩ := h
    rfl
  · obtain ⟨L, x, zs, d, rfl, hL, wz, lz, hx, hl, k⟩ := h
    have nd := scEnds.nd
    refine ⟨_, C8.pss_cut (ps_set (i := 2) nd rfl (by first | exact Or.inl rfl | exact Or.inr rfl) (pe_ifExp (pt_cmpR op_eq (pe_ix ix_tup (pv 1) pe_int fun _ _ => rfl) (pe_str) (nomark _)) (pe_lst (pa_cons (pe_ix ix_tup (pv 1) pe_int fun _ _ => rfl) pa_nil)) (pe_ifExp (pt_cmpR op_eq (pe_ix ix_tup (pv 1) pe_int fun _ _ => rfl) (pe_str) (nomark _)) (pe_lst (pa_cons (pe_ix ix_tup (pv 1) pe_int fun _ _ => rfl) pa_nil)) (pe_lst (pa_nil)))))
        (C8.pss_cut (ps_setLc (i := 3) (own := [("_law_name", 4)]) (g := gName 4) (by rfl) nd rfl rfl (sw_true rfl rfl rfl (by decide +kernel)) (pi_list (pv 0)) (blkOk_by (own := [("_law_name", 4)]) (N := NEn) (sc := defScope s__law_ends) (by decide +kernel)) (fun _ _ _ _ _ => pg_name (i := 4) nd rfl (by first | exact Or.inl rfl | exact Or.inr rfl)) (fun _ _ _ _ _ => pts_one (pt_cmpR (show OpR _ _ (rIn K true) from op_notIn_seq) (pv 4) (pv 2) (by with_unfolding_all rfl))) (fun _ _ _ _ _ => pv 4))
        (pss_one (ps_ret (pe_ifExp (pt_cmpR op_eq (pe_ix ix_tup (pv 1) pe_int fun _ _ => rfl) (pe_str) (nomark _)) (pe_callB cr_sortedS (by rfl) srt (by decide +kernel) (pa_cons (pe_op op_cat (pv 3) (pe_lst (pa_cons (pe_ix ix_tup (pv 1) pe_int fun _ _ => rfl) pa_nil))) pa_nil)) (pv 3))))), ?_⟩
    obtain ⟨u, items, rfl, hu, n1, n2, hli, hat, fF, fS, fP⟩ := hl.ex
    obtain ⟨T, ys0, rfl, hT, hys0⟩ := dp_tup hx
    obtain ⟨ys, rfl, hys⟩ := dp_word hys0
    have h0 : atI (V.str u :: ys) 0 = some (V.str u) := atI_nat (j := 0) rfl
    refine ⟨fun σ G => ∃ (D0 : Addr) (gs : List Str), σ = [some (.ref L), some (.ref T), some (.ref D0), none, none] ∧ Same H G ∧ G D0 = some (.lst (tVs gs)), ?_, ?_⟩
    · refine ⟨_, rfl, _, _, _, _, rfl, rfl, hT, h0, rfl, _, rfl, ?_⟩
      rw [str_cmp]
      by_cases z : u = "forget"
      · obtain ⟨z1, r, rfl, _⟩ := fF z
        obtain ⟨ys', rfl, _⟩ := dp_word hys
        rw [decide_eq_true z]
        exact iteT ⟨_, rfl, _, _, _, _, rfl, rfl, hT, atI_nat (j := 1) rfl, (show 1 ≤ sizeLine by decide), fun D0 hD0 => ⟨D0, [z1], rfl, same_upd hD0, upd_same⟩⟩
      · rw [decide_eq_false z]
        refine iteF ⟨_, rfl, _, _, _, _, rfl, rfl, hT, h0, rfl, _, rfl, ?_⟩
        rw [str_cmp]
        by_cases z : u = "same"
        · obtain ⟨y1, z1, r, rfl, _⟩ := fS z
          obtain ⟨ys', rfl, hys'⟩ := dp_word hys
          obtain ⟨ys'', rfl, _⟩ := dp_word hys'
          rw [decide_eq_true z]
          exact iteT ⟨_, rfl, _, _, _, _, rfl, rfl, hT, atI_nat (j := 2) rfl, (show 1 ≤ sizeLine by decide), fun D0 hD0 => ⟨D0, [z1], rfl, same_upd hD0, upd_same⟩⟩
        · rw [decide_eq_false z]
          exact iteF ⟨(show 0 ≤ sizeLine by decide), fun D0 hD0 => ⟨D0, [], rfl, same_upd hD0, upd_same⟩⟩
    · rintro σ G ⟨D0, gs, rfl, sm, hG⟩
      refine ⟨fun σ G' => ∃ (D1 : Addr) (ls : List Str), σ = [some (.ref L), some (.ref T), some (.ref D0), some (.ref D1), none] ∧ Same H G' ∧ H D1 = none ∧ G' D1 = some (.lst (tVs ls)) ∧ (∀ z ∈ ls, nmB z) ∧ ls.length ≤ zs.length, ?_, ?_⟩
      · refine ⟨_, rfl, L, rfl, ⟨_, Same.seq sm hL⟩, fun D hD => ?_⟩
        refine lc_list (K := K) (a := L) (xs := tVs zs) (fun i G2 => Same G G2 ∧ ∃ ls : List Str, G2 D = some (.lst (tVs ls)) ∧ (∀ z ∈ ls, nmB z) ∧ ls.length ≤ i) ⟨same_upd hD, [], upd_same, fun _ h => (by cases h), Nat.zero_le _⟩ (fun i G2 _ c => Same.seq (sm.trans c.1) hL) (fun i v G2 hv c => ?_) (fun G2 c => ?_)
        · obtain ⟨s2, ls, hls, wl, ll⟩ := c
          rw [List.getElem?_map] at hv
          obtain ⟨z, hz, rfl⟩ := Option.map_eq_some_iff.mp hv
          have wz1 := wz z (List.mem_of_getElem? hz)
          have li : i < zs.length := (List.getElem?_eq_some_iff.mp hz).1
          refine ⟨rfl, _, rfl, _, rfl, D0, tVs gs, rfl, .inl (SqL.of (s2 _ _ hG)), rfl, flat_strs _, _, rfl, ?_⟩
          refine ite2 (fun _ => ?_) (fun _ => ?_)
          · refine ⟨_, rfl, _, hls, ?_, fun b o hb => ?_, ls ++ [z], ?_, fun y hy => ?_, ?_⟩
            · rw [List.length_map]
              exact Nat.lt_of_lt_of_le (show ls.length < 30 by omega) (by decide)
            · rw [upd_ne (ne_of_none hb hD)]
              exact s2 _ _ hb
            · rw [upd_same, ← tVs_app]
              rfl
            · rcases List.mem_append.mp hy with hy | hy
              · exact wl y hy
              · rw [List.mem_singleton.mp hy]
                exact wz1
            · rw [List.length_append, List.length_singleton]
              omega
          · exact ⟨s2, ls, hls, wl, by omega⟩
        · obtain ⟨s2, ls, hls, wl, ll⟩ := c
          rw [List.length_map] at ll
          exact ⟨D, ls, rfl, sm.trans s2, sm.free hD, hls, wl, ll⟩
      · rintro σ G' ⟨D1, ls, rfl, s1, hD1, hls, wl, ll⟩
        have hT1 := Same.tup s1 hT
        refine ⟨_, rfl, _, _, _, _, rfl, rfl, hT1, h0, rfl, _, rfl, ?_⟩
        rw [str_cmp]
        by_cases z : u = "place"
        · obtain ⟨z1, r, rfl, w1⟩ := fP z
          obtain ⟨ys', rfl, _⟩ := dp_word hys
          rw [decide_eq_true z]
          refine iteT ⟨_, rfl, _, rfl, _, _, _, _, rfl, rfl, hT1, atI_nat (j := 1) rfl, (show 1 ≤ sizeLine by decide), fun E hE => ⟨D1, E, _, _, rfl, rfl, same_upd hE _ _ hls, upd_same, ?_, fun p1 hp1 => ?_⟩⟩
          · rw [List.length_map]
            exact line_of (show ls.length + 1 ≤ 100000 by omega)
          have s2 := (s1.trans (same_upd (o := .lst [V.str z1]) hE)).trans (same_upd (o := .lst (tVs ls ++ [V.str z1])) hp1)
          refine ⟨p1, ls ++ [z1], rfl, SqL.of (by rw [upd_same, List.map_append]; rfl), ?_, fun os p2 pm _ hp2 => ?_⟩
          · rw [List.length_append, List.length_singleton]
            omega
          · refine k p2 os _ (s2.free hp2) (s2.trans (same_upd hp2)) upd_same (fun y hy => ?_) ?_
            · rcases List.mem_append.mp (pm.mem_iff.mp hy) with hy | hy
              · exact wl y hy
              · rw [List.mem_singleton.mp hy]
                exact w1
            · rw [pm.length_eq, List.length_append, List.length_singleton]
              omega
        · rw [decide_eq_false z]
          exact iteF ⟨_, rfl, k D1 ls G' hD1 s1 hls wl (by omega)⟩
variable {fD fY fO fN fB fL : Addr} {fdD fdY fdO fdN fdB fdL : FuncData}
/-! ### steps that keep the names -/
abbrev NSl : List Str := ["_law_src", "_law_names_here", "_law_layers", "_law_many", "_law_found", "_law_k", "_law_way", "_law_layer_here", "_law_step"]
theorem scStill : FnScope NSl ["_law_src", "_law_names_here", "_law_layers", "_law_many"] (defScope s__law_still) := ⟨rfl, rfl, rfl, by decide +kernel, rfl, by decide +kernel, by decide +kernel⟩
def spStill (K : PySem.W.Frag) : Sp := fun vs H Q _ => ∃ (p q L : Addr) (cells : List Int) (zs : List Str) (m n : Int), vs = [.ref p, .ref L, .int m, .int n] ∧ Src H p q cells ∧ Nams K p H L zs ∧ 1 ≤ m ∧ m ≤ 2 ∧ 1 ≤ n ∧ n ≤ 2 ∧
  ∀ (x : V) (ds : List PyData) (H' : Hp), (∀ d ∈ ds, StD 0 d) → ds.length ≤ 2 → Dp K (wos [p] H') x (.tuple ds) → Src H' p q cells → Exs [p] H H' → Q x H'
theorem ok_still {f : Addr} {fd : FuncData} (F : Fun K "_law_still" "_law_still" s__law_still f fd) (rng : mg "range" = none) (tpl : mg "tuple" = none) (D : DH P w K mg base fD fY fO fN fB fL fdD fdY fdO fdN fdB fdL) :
    FnOk P w K mg base CX0 3 f fd ["_law_src", "_law_names_here", "_law_layers", "_law_many"] (spStill K) := by
  obtain ⟨GD, mD, kD, bD, GY, mY, kY, bY, GO, mO, kO, bO, GN, mN, kN, bN, GB, mB, kB, bB, GL, mL, kL, bL⟩ := D
  refine F.ok scStill (fun vs H Q E h => ?_) (fun cdv A outer s H vs Q E hr h => ?_)
  · obtain ⟨p, q, L, cells, zs, m, n, rfl, _⟩ := h
    rfl
  · obtain ⟨p, q, L, cells, zs, m, n, rfl, hS, hN, m1, m2, w1, w2, k⟩ := h
    have nd := scStill.nd
    have hr1 : Room 1 _ := hr.mono (by decide)
    have hr2 : Room 2 _ := hr.mono (by decide)
    refine ⟨_, pss_cons (ps_set (i := 4) nd rfl (by first | exact Or.inl rfl | exact Or.inr rfl) (pe_lst pa_nil))
        (pss_cons (ps_for PassesOwn.never rfl (pi_range1 (by rfl) rng (pa_cons (pe_call GD hr1 (by rfl) mD kD bD .nil pass0 (pa_cons (pv 0) (pa_cons (pe_op op_add (pv 3) pe_int) pa_nil))) pa_nil)) (pg_name (i := 5) nd rfl (by first | exact Or.inl rfl | exact Or.inr rfl))
        (C8.pss_cut (ps_par (i := 6) (j := 7) (by rfl) nd rfl rfl (by decide) rfl rfl (pa_cons (pe_call GD hr1 (by rfl) mD kD bD .nil pass0 (pa_cons (pv 0) (pa_cons (pe_int) pa_nil))) (pa_cons (pe_call GY hr2 (by rfl) mY kY bY .nil pass0 (pa_cons (pv 0) (pa_cons (pv 2) pa_nil))) pa_nil)) (by rfl))
        (C8.pss_cut (ps_set (i := 8) nd rfl (by first | exact Or.inl rfl | exact Or.inr rfl) (pe_ifExp (pt_cmpR op_eq (pv 6) (pe_int) (nomark _)) (pe_tup (pa_cons (pe_str) (pa_cons (pv 7) (pa_cons (pe_call GB hr2 (by rfl) mB kB bB .nil pass0 (pa_cons (pv 0) (pa_cons (pe_call GN hr2 (by rfl) mN kN bN .nil pass0 (pa_cons (pv 0) pa_nil)) pa_nil))) pa_nil)))) (pe_ifExp (pt_cmpR op_eq (pv 6) (pe_int) (nomark _)) (pe_tup (pa_cons (pe_str) (pa_cons (pv 7) pa_nil))) (pe_tup (pa_cons (pe_str) pa_nil)))))
        (C8.pss_cut (ps_if (PW.pt (pw_and (pt_cmpR op_lt (pv 6) (pe_int) (nomark _)) (pw_and1 (pt_cmpR (op_neD hr.units) (pv 1) (pe_lst pa_nil) (nomark _)))))
        (pss_one (ps_set (i := 8) nd rfl (by first | exact Or.inl rfl | exact Or.inr rfl) (pe_tup (pa_cons (pe_if2 (pt_imp (t' := tTwo 6 2) (PW.pt (pw_and (pt_cmpR op_eq (pv 6) (pe_int) (nomark _)) (pw_and1 (pt_cmpR op_eq (pv 2) (pe_int) (nomark _))))) (fun σ H Q ⟨a, b, h1, h2, c⟩ => ⟨_, h1, rfl, _, rfl, ite2 (fun _ => ⟨_, h2, rfl, _, rfl, c _⟩) (fun _ => c _)⟩)) (pe_str) (pe_str)) (pa_cons (pv 7) (pa_cons (pe_call GO hr2 (by rfl) mO kO bO .nil pass0 (pa_cons (pv 0) (pa_cons (pv 1) pa_nil))) (pa_cons (pe_call GO hr2 (by rfl) mO kO bO .nil pass0 (pa_cons (pv 0) (pa_cons (pv 1) pa_nil))) (pa_cons (pe_call GB hr2 (by rfl) mB kB bB .nil pass0 (pa_cons (pv 0) (pa_cons (pe_call GN hr2 (by rfl) mN kN bN .nil pass0 (pa_cons (pv 0) pa_nil)) pa_nil))) pa_nil)))))))) pss_nil)
        (pss_one (ps_expr (pe_bm PySem.F.plainAttrs_list PySem.F.slot_list_append PySem.F.type_list_append mt_append (pv 4) (pa_cons (pe_ifExp (pt_cmpR op_in_seq (pv 6) (pe_tup (pa_cons (pe_int) (pa_cons (pe_int) pa_nil))) rfl) (pe_tup (pa_cons (pe_str) (pa_cons (pv 7) (pa_cons (pe_ifExp (pt_cmpR op_eq (pv 6) (pe_int) (nomark _)) (pe_int) (pe_tup (pa_cons (pe_int) (pa_cons (pe_int) pa_nil)))) pa_nil)))) (pv 8)) pa_nil))))))))
        (pss_one (ps_ret (pe_callTy call_tupleK (by rfl) tpl (by decide +kernel) (pa_cons (pv 4) pa_nil))))), ?_⟩
    have sz : ∀ {n : Nat}, n ≤ 5 → n ≤ sizeLine := fun h => Nat.le_trans h (by decide)
    refine ⟨sz (by simp), fun D hD => ?_⟩
    have nDp := hS.ne1 hD
    have nDq := hS.ne2 hD
    have mD := same_upd (o := .lst []) hD
    have l1 : (tVs zs).length < 1000000 := by
      rw [List.length_map]
      have := hN.few
      omega
    have nam : ∀ {i : Nat} {x : V}, (tVs zs)[i]? = some x → ∃ z, x = .str z ∧ nmB z := fun {i x} h => by
      rw [List.getElem?_map] at h
      obtain ⟨z, hz, rfl⟩ := Option.map_eq_some_iff.mp h
      exact ⟨z, rfl, hN.wd z (List.mem_of_getElem? hz)⟩
    have nDm : D ∉ [p] := fun z => nDp (List.mem_singleton.mp z)
    -- the list so far stays
    have stay : ∀ {G G' : Hp} {ds : List PyData}, Exs [p] G G' → Acc K [p] D G ds → Acc K [p] D G' ds := fun e c => c.on (Exs.mono (fun b h => List.mem_cons_of_mem _ h) e) fun o h => e.on nDm h
    have both : ∀ {G : Hp} {ds : List PyData}, Src G p q cells → Acc K [p] D G ds → ∀ b ∈ [D, p], ∃ ys, G b = some (.lst ys) := fun {G ds} S c b hb => by
      rcases List.mem_cons.mp hb with rfl | hb
      · obtain ⟨acc, h1, _⟩ := c.ex
        exact ⟨_, h1⟩
      · exact S.lsts b hb
    have sub : ∀ b ∈ [p], b ∈ [D, p] := fun b z => List.mem_cons_of_mem _ z
    have tup : ∀ {G : Hp} {T : Addr} {xs : List V} {ds es : List PyData}, G T = none → Src G p q cells → Acc K [p] D G ds → DpAll K (wos [D, p] G) xs es → Dp K (wos [D, p] (upd G T (.tup xs))) (.ref T) (.tuple es) ∧ Src (upd G T (.tup xs)) p q cells ∧ Acc K [p] D (upd G T (.tup xs)) ds ∧ Exs [p] G (upd G T (.tup xs)) := fun {G T xs ds es} hT S c hd =>
      ⟨Dp.tupN hT (fresh_out (fun b z => let ⟨ys, hy⟩ := both S c b z; ⟨_, hy⟩) hT) hd, S.put (S.out hT), stay (Exs.of (same_upd hT)) c, Exs.of (same_upd hT)⟩
    have e0 : Exs [p] H (upd H D (.lst [])) := Exs.put (fun _ _ z => z : Exs [p] H H) hD
    refine ⟨_, rfl, _, rfl, _, _, rfl, rfl, p, q, cells, _, rfl, hS.put (hS.out hD), by omega, Int.lt_of_le_of_lt (show n + 1 ≤ 3 by omega) (by decide), fun r Gr r0 r1 Sr Br => ?_⟩
    refine ⟨r, rfl, by omega, by omega, for_range (lo := 0) (n := r.toNat) (fun i σ G => ∃ (o5 o6 o7 o8 : Option V) (ds : List PyData), σ = [some (.ref p), some (.ref L), some (.int m), some (.int n), some (.ref D), o5, o6, o7, o8] ∧ Src G p q cells ∧ Exs [p] H G ∧ Acc K [p] D G ds ∧ (∀ d ∈ ds, StD 0 d) ∧ ds.length ≤ i)
      ⟨_, _, _, _, [], rfl, Sr, e0.trans (But.exs Br), stay (But.exs Br) Acc.start, all_nil, Nat.le_refl _⟩ ?_ ?_⟩
    · rintro i σ G hi ⟨o5, o6, o7, o8, ds, rfl, S0, e0, c0, st0, l0⟩
      refine ⟨fun σ G => ∃ (o5 o8 : Option V) (way : Int) (lz : Str), σ = [some (.ref p), some (.ref L), some (.int m), some (.int n), some (.ref D), o5, some (.int way), some (.str lz), o8] ∧ layB lz ∧ Src G p q cells ∧ Exs [p] H G ∧ Acc K [p] D G ds, ?_, ?_⟩
      · exact ⟨_, rfl, p, q, cells, 8, rfl, S0, by decide, by decide, fun way G1 a1 c1 S1 B1 => ⟨_, rfl, _, rfl, p, q, cells, m, rfl, S1, m1, m2, fun lz G2 hlz S2 e2 => ⟨_, _, rfl, _, _, way, lz, rfl, hlz, S2, (e0.trans (But.exs B1)).trans e2, stay e2 (stay (But.exs B1) c0)⟩⟩⟩
      rintro σ G ⟨o5, o8, way, lz, rfl, hlz, S0, e0, c0⟩
      have atl : KindOk "layer" (.str lz) := .layer hlz
      refine ⟨fun σ G => ∃ (o5 : Option V) (x : V) (d : PyData), σ = [some (.ref p), some (.ref L), some (.int m), some (.int n), some (.ref D), o5, some (.int way), some (.str lz), some x] ∧ StD 0 d ∧ Dp K (wos [D, p] G) x d ∧ Src G p q cells ∧ Exs [p] H G ∧ Acc K [p] D G ds, ?_, ?_⟩
      · refine ⟨_, rfl, rfl, _, rfl, ite2 (fun _ => ?_) (fun _ => ?_)⟩
        · refine ⟨_, rfl, _, rfl, _, rfl, p, q, cells, rfl, S0, fun T s G4 nT hT ln S4 e4 => ⟨p, q, cells, _, s, rfl, S4, ratP_dp (SqT.of hT), fun x g G5 hb hx S5 e5 => ⟨sz (by simp), fun T hT => ?_⟩⟩⟩
          have c5 := stay (e4.trans e5) c0
          obtain ⟨t1, t2, t3, t4⟩ := tup hT S5 c5 (.cons (.str _) (.cons (.str _) (.cons (Dp.wosT (both S5 c5) _ _ (bare_noL hb) hx) .nil)))
          exact ⟨_, _, _, rfl, (leafN_of (u := "cap") (ks := ["layer", "length"]) (by decide +kernel) (by decide +kernel) (.cons atl (.cons (.length (bare_len ln hb).1) .nil))).std, t1, t2, e0.trans ((e4.trans e5).trans t4), t3⟩
        refine ⟨_, rfl, rfl, _, rfl, ite2 (fun _ => ?_) (fun _ => ?_)⟩
        · refine ⟨_, rfl, sz (by simp), fun T hT => ?_⟩
          obtain ⟨t1, t2, t3, t4⟩ := tup hT S0 c0 (.cons (.str _) (.cons (.str _) .nil))
          exact ⟨_, _, _, rfl, (leafN_of (u := "round") (ks := ["layer"]) (by decide +kernel) (by decide +kernel) (.cons atl .nil)).std, t1, t2, e0.trans t4, t3⟩
        · refine ⟨sz (by simp), fun T hT => ?_⟩
          obtain ⟨t1, t2, t3, t4⟩ := tup hT S0 c0 (.cons (.str _) .nil)
          exact ⟨_, _, _, rfl, (leafN_of (u := "turn") (ks := []) (by decide +kernel) (by decide +kernel) .nil).std, t1, t2, e0.trans t4, t3⟩
      rintro σ G ⟨o5, x, d, rfl, std, hx, S0, e0, c0⟩
      refine ⟨fun σ G => ∃ (o5 : Option V) (x : V) (d : PyData), σ = [some (.ref p), some (.ref L), some (.int m), some (.int n), some (.ref D), o5, some (.int way), some (.str lz), some x] ∧ StD 0 d ∧ Dp K (wos [D, p] G) x d ∧ Src G p q cells ∧ Exs [p] H G ∧ Acc K [p] D G ds, ?_, ?_⟩
      · refine ⟨_, rfl, _, _, rfl, rfl, _, rfl, ite2 (fun _ => ?_) (fun _ => iteF ⟨_, _, _, rfl, std, hx, S0, e0, c0⟩)⟩
        refine ⟨_, rfl, by decide, fun E hE => nams_ne (hN.on e0) hE ?_⟩
        have S1 : Src (upd G E (.lst [])) p q cells := S0.put (S0.out hE)
        have eE : Exs [p] G (upd G E (.lst [])) := Exs.of (same_upd hE)
        have e1 : Exs [p] H (upd G E (.lst [])) := e0.trans eE
        have c1 := stay eE c0
        by_cases z : zs = []
        · rw [decide_eq_true z]
          exact iteF ⟨_, _, _, rfl, std, Dp.same (Exs.mono sub eE) _ _ hx, S1, e1, c1⟩
        rw [decide_eq_false z]
        have l0' : 0 < (tVs zs).length := by
          rw [List.length_map]
          exact List.length_pos_iff.mpr z
        refine iteT ⟨_, _, rfl, rfl, fun _ u hu => ?_⟩
        refine ⟨_, rfl, _, rfl, _, rfl, p, q, cells, _, rfl, S1, .inl ⟨L, tVs zs, rfl, fun H' B => .inl (hN.on (e1.trans (But.exs B))).at_, l0', l1, fun i x G2 hx S2 B2 => ?_⟩⟩
        obtain ⟨za, rfl, wa⟩ := nam hx
        have e2 := e1.trans (But.exs B2)
        refine ⟨_, rfl, _, rfl, p, q, cells, _, rfl, S2, .inl ⟨L, tVs zs, rfl, fun H' B => .inl (hN.on (e2.trans (But.exs B))).at_, l0', l1, fun i x G3 hx S3 B3 => ?_⟩⟩
        obtain ⟨zb, rfl, wb⟩ := nam hx
        refine ⟨_, rfl, _, rfl, p, q, cells, rfl, S3, fun T s G4 nT hT ln S4 e4 => ⟨p, q, cells, _, s, rfl, S4, ratP_dp (SqT.of hT), fun x g G5 hb hx S5 e5 => ⟨sz (by simp), fun T hT => ?_⟩⟩⟩
        have ha : Paired KindOk askK [PyData.str lz, .str za, .str zb, g] := .cons atl (.cons (.name wa) (.cons (.name wb) (.cons (.length (bare_len ln hb).1) .nil)))
        have e25 := ((But.exs B2).trans (But.exs B3)).trans (e4.trans e5)
        have c5 := stay e25 c1
        have hx := Dp.wosT (both S5 c5) _ _ (bare_noL hb) hx
        rcases hu with rfl | rfl
        · obtain ⟨t1, t2, t3, t4⟩ := tup hT S5 c5 (.cons (.str _) (.cons (.str _) (.cons (.str _) (.cons (.str _) (.cons hx .nil)))))
          exact ⟨_, _, _, rfl, (leafN_of (u := "ride") (ks := askK) (by decide +kernel) (by decide +kernel) ha).std, t1, t2, (e1.trans e25).trans t4, t3⟩
        · obtain ⟨t1, t2, t3, t4⟩ := tup hT S5 c5 (.cons (.str _) (.cons (.str _) (.cons (.str _) (.cons (.str _) (.cons hx .nil)))))
          exact ⟨_, _, _, rfl, (leafN_of (u := "road") (ks := askK) (by decide +kernel) (by decide +kernel) ha).std, t1, t2, (e1.trans e25).trans t4, t3⟩
      rintro σ G ⟨o5, x, d, rfl, std, hx, S0, e0, c0⟩
      have fin : ∀ {G' : Hp} {y : V} {d' : PyData}, StD 0 d' → Dp K (wos [D, p] G') y d' → Src G' p q cells → Exs [p] H G' → Acc K [p] D G' ds → ∃ acc, G' D = some (.lst acc) ∧ acc.length < sizeLine ∧ Src (upd G' D (.lst (acc ++ [y]))) p q cells ∧ Exs [p] H (upd G' D (.lst (acc ++ [y]))) ∧ Acc K [p] D (upd G' D (.lst (acc ++ [y]))) (ds ++ [d']) ∧ (∀ d ∈ ds ++ [d'], StD 0 d) ∧ (ds ++ [d']).length ≤ i + 1 := fun {G' y d'} sd hy S e c => by
        obtain ⟨acc, h1, h2, h3⟩ := c.more hy
        refine ⟨acc, h1, ?_, S.over nDp nDq, Exs.put e hD, h3, fun d hd => ?_, ?_⟩
        · rw [h2]
          exact Nat.lt_of_lt_of_le (show ds.length < 10 by omega) (by decide)
        · rcases List.mem_append.mp hd with hd | hd
          · exact st0 d hd
          · rw [List.mem_singleton.mp hd]
            exact sd
        · rw [List.length_append, List.length_singleton]
          omega
      obtain ⟨acc0, hacc0, _⟩ := c0.ex
      refine ⟨_, rfl, .inl ⟨rfl, _, SqL.of hacc0⟩, _, rfl, sz (by simp), fun T hT => ⟨T, [.int 4, .int 5], rfl, .inr (SqT.of upd_same), rfl, rfl, _, rfl, ?_⟩⟩
      obtain ⟨_, S1, c1, e1⟩ := tup hT S0 c0 (.cons (.int 4) (.cons (.int 5) .nil))
      refine ite2 (fun _ => ?_) (fun _ => ?_)
      · refine ⟨_, rfl, _, rfl, rfl, _, rfl, ite2 (fun _ => ?_) (fun _ => ?_)⟩
        · refine ⟨sz (by simp), fun T2 hT2 => ?_⟩
          obtain ⟨t1, t2, t3, t4⟩ := tup hT2 S1 c1 (.cons (.str _) (.cons (.str _) (.cons (.int 2) .nil)))
          obtain ⟨acc, h1, h2, r1, r2, r3, r4, r5⟩ := fin (leafN_of (u := "scale") (ks := ["layer", "scale"]) (by decide +kernel) (by decide +kernel) (.cons atl (.cons (.scale (d := .int 2) ⟨rfl, by decide, by decide, by decide⟩ (by decide)) .nil))).std t1 t2 (e0.trans (e1.trans t4)) t3
          exact ⟨D, acc, _, rfl, rfl, h1, h2, _, _, _, _, _, rfl, r1, r2, r3, r4, r5⟩
        · refine ⟨sz (by simp), fun T2 hT2 => ?_⟩
          obtain ⟨t1, t2, t3, t4⟩ := tup hT2 S1 c1 (.cons (.int 5) (.cons (.int 3) .nil))
          refine ⟨sz (by simp), fun T3 hT3 => ?_⟩
          obtain ⟨u1, u2, u3, u4⟩ := tup hT3 t2 t3 (.cons (.str "scale") (.cons (.str lz) (.cons t1 .nil)))
          obtain ⟨acc, h1, h2, r1, r2, r3, r4, r5⟩ := fin (leafN_of (u := "scale") (ks := ["layer", "scale"]) (items := [.str lz, .tuple [.int 5, .int 3]]) (by decide +kernel) (by decide +kernel) (.cons atl (.cons (.scale ⟨by decide +kernel, by decide +kernel, by decide +kernel, by decide +kernel⟩ (by decide +kernel)) .nil))).std u1 u2 (e0.trans (e1.trans (t4.trans u4))) u3
          exact ⟨D, acc, _, rfl, rfl, h1, h2, _, _, _, _, _, rfl, r1, r2, r3, r4, r5⟩
      · obtain ⟨acc, h1, h2, r1, r2, r3, r4, r5⟩ := fin std (Dp.same (Exs.mono sub e1) _ _ hx) S1 (e0.trans e1) c1
        exact ⟨_, rfl, D, acc, _, rfl, rfl, h1, h2, _, _, _, _, _, rfl, r1, r2, r3, r4, r5⟩
    · rintro σ G ⟨o5, o6, o7, o8, ds, rfl, S0, e0, c0, st0, l0⟩
      obtain ⟨acc, hacc, hd⟩ := c0.ex
      refine ⟨_, rfl, D, acc, rfl, .inl ⟨SqL.of hacc, fun l hl => ?_⟩⟩
      obtain ⟨t1, t2, t3, t4⟩ := tup hl S0 c0 hd
      exact k _ _ _ st0 (by omega) (Dp.same (wos_less sub) _ _ t1) t2 (e0.trans t4)
end
end Lw

set_option maxRecDepth 100000
set_option linter.unusedVariables false
namespace Lw
open PySem PySem.Spec PyProof.Rows L2 VG
/-! ### tests, repeats; drawn rows of steps -/
theorem if_std {n : Nat} {as ds es : List PyData} (l4 : as.length = 4) (ha : Paired KindOk askK as) (h1 : ∀ d ∈ ds, StD n d) (l1 : ds.length ≤ 2) (h2 : ∀ d ∈ es, StD n d) (l2 : es.length ≤ 2) : StD (n + 1) (.tuple (.str "if" :: (as ++ [.tuple ds, .tuple es]))) := by
  obtain ⟨w1, p1, r1⟩ := lw_of h1 l1
  obtain ⟨w2, p2, r2⟩ := lw_of h2 l2
  exact ⟨_, _, .inr (.inl ⟨as, ds, es, w1, w2, p1, p2, ha, rfl, rfl, r1, r2, rfl⟩)⟩
theorem rep_std {n : Nat} {k : Int} {ds : List PyData} (k0 : 1 ≤ k) (k9 : k ≤ 3) (h1 : ∀ d ∈ ds, StD n d) (l1 : ds.length ≤ 2) : StD (n + 1) (.tuple [.str "repeat", .int k, .tuple ds]) := by
  obtain ⟨w1, p1, r1⟩ := lw_of h1 l1
  exact ⟨_, _, .inr (.inr ⟨k, ds, w1, p1, rfl, rfl, k0, k9, r1, rfl⟩)⟩
theorem all_snoc {α : Type} {p : α → Prop} {a : α} {l : List α} (t : ∀ e ∈ l, p e) (h : p a) : ∀ e ∈ l ++ [a], p e := fun e he => by
  rcases List.mem_append.mp he with he | he
  · exact t e he
  · rw [List.mem_singleton.mp he]
    exact h
def cutN (zs : List Str) (lo hi : Option Int) : List Str := (zs.drop (HT.sIx zs.length 0 lo)).take (HT.sIx zs.length zs.length hi - HT.sIx zs.length 0 lo)
theorem cut_names (zs : List Str) (lo hi : Option Int) : cutV (tVs zs) lo hi = tVs (cutN zs lo hi) := by
  unfold cutV cutN
  rw [List.length_map]
  simp only [tVs, List.map_take, List.map_drop]
theorem cutN_mem {zs : List Str} {lo hi : Option Int} {z : Str} (h : z ∈ cutN zs lo hi) : z ∈ zs := List.mem_of_mem_drop (List.mem_of_mem_take h)
theorem cutN_len {zs : List Str} {lo hi : Option Int} : (cutN zs lo hi).length ≤ HT.sIx zs.length zs.length hi - HT.sIx zs.length 0 lo := by
  unfold cutN
  rw [List.length_take]
  omega
theorem cutN_few {zs : List Str} {k : Nat} : (cutN zs none (some (k : Int))).length ≤ k := by
  refine Nat.le_trans cutN_len ?_
  rw [HT.sIx_nat]
  omega
section
variable {P : Program} {w : World} {K : PySem.W.Frag} {mg : Str → Option Value} {base : Heap}
theorem Src.same {H H' : Hp} {p q : Addr} {cells : List Int} (h : Src H p q cells) (e : Same H H') : Src H' p q cells := by
  obtain ⟨i, c, sd, n, e1, a, b⟩ := h.ex
  exact ⟨⟨i, c, sd, n, e _ _ e1, a, b⟩, e _ _ h.cs, h.few, h.ne⟩
/-- t + u of data -/
theorem cat_at {G : Hp} {p q : Addr} {cells : List Int} {x y : V} {ds es : List PyData} {Q : VK} (S : Src G p q cells) (hx : Dp K (wos [p] G) x (.tuple ds)) (hy : Dp K (wos [p] G) y (.tuple es)) (lz : ds.length + es.length ≤ 1000)
    (k : ∀ (z : V) (G' : Hp), Dp K (wos [p] G') z (.tuple (ds ++ es)) → Src G' p q cells → Same G G' → Q z G') : rCatA K x y G Q := by
  obtain ⟨a, xs, rfl, hs, hd⟩ := dp_tup hx
  obtain ⟨b, ys, rfl, ht, he⟩ := dp_tup hy
  have l1 := DpAll.len hd
  have l2 := DpAll.len he
  refine ⟨a, b, xs, ys, rfl, rfl, Same.tup wos_sub hs, Same.tup wos_sub ht, ?_, fun z => k _ _ ?_ S (Same.refl G), fun _ z => k _ _ ?_ S (Same.refl G), fun _ _ T hT => k _ _ ?_ (S.put (S.out hT)) (same_upd hT)⟩
  · exact Nat.le_trans (show xs.length + ys.length ≤ 1000 by omega) (by decide)
  · subst z
    cases hd
    exact hy
  · subst z
    cases he
    rw [List.append_nil]
    exact hx
  · exact Dp.tupN hT (fresh_out (fun b z => let ⟨ys, hy⟩ := S.lsts b z; ⟨_, hy⟩) hT) (DpAll.app hd he)
variable {fD fY fO fN fB fL : Addr} {fdD fdY fdO fdN fdB fdL : FuncData}
def spTest (K : PySem.W.Frag) : Sp := fun vs H Q _ => ∃ (p q L : Addr) (cells : List Int) (zs : List Str) (m : Int), vs = [.ref p, .ref L, .int m] ∧ Src H p q cells ∧ Nams K p H L zs ∧ zs ≠ [] ∧ 1 ≤ m ∧ m ≤ 2 ∧
  ∀ (x : V) (as : List PyData) (H' : Hp), as.length = 4 → Paired KindOk askK as → Dp K (wos [p] H') x (.tuple (.str "if" :: as)) → Src H' p q cells → Exs [p] H H' → Q x H'
theorem scTest : FnScope ["_law_src", "_law_names_here", "_law_layers"] ["_law_src", "_law_names_here", "_law_layers"] (defScope s__law_test) := ⟨rfl, rfl, rfl, by decide +kernel, rfl, by decide +kernel, by decide +kernel⟩
theorem Nams.some_ {p L : Addr} {G : Hp} {zs : List Str} (h : Nams K p G L zs) (n : zs ≠ []) : (∀ H', But p G H' → SqL K H' L (tVs zs) ∨ SqT K H' L (tVs zs)) ∧ 0 < (tVs zs).length ∧ (tVs zs).length < 1000000 := by
  refine ⟨fun H' B => .inl (h.on (But.exs B)).at_, ?_, ?_⟩
  · rw [List.length_map]
    exact List.length_pos_iff.mpr n
  · rw [List.length_map]
    have := h.few
    omega
theorem Nams.it {p L : Addr} {G : Hp} {zs : List Str} (h : Nams K p G L zs) {i : Nat} {x : V} (e : (tVs zs)[i]? = some x) : ∃ z, x = .str z ∧ nmB z := by
  rw [List.getElem?_map] at e
  obtain ⟨z, hz, rfl⟩ := Option.map_eq_some_iff.mp e
  exact ⟨z, rfl, h.wd z (List.mem_of_getElem? hz)⟩
theorem ok_test {f : Addr} {fd : FuncData} (F : Fun K "_law_test" "_law_test" s__law_test f fd) (D : DH P w K mg base fD fY fO fN fB fL fdD fdY fdO fdN fdB fdL) :
    FnOk P w K mg base CX0 3 f fd ["_law_src", "_law_names_here", "_law_layers"] (spTest K) := by
  obtain ⟨GD, mD, kD, bD, GY, mY, kY, bY, GO, mO, kO, bO, GN, mN, kN, bN, GB, mB, kB, bB, GL, mL, kL, bL⟩ := D
  refine F.ok scTest (fun vs H Q E h => ?_) (fun cdv A outer s H vs Q E hr h => ?_)
  · obtain ⟨p, q, L, cells, zs, m, rfl, _⟩ := h
    rfl
  · obtain ⟨p, q, L, cells, zs, m, rfl, hS, hN, nz, m1, m2, k⟩ := h
    have hr2 : Room 2 _ := hr.mono (by decide)
    refine ⟨_, pss_one (ps_ret (pe_tup (pa_cons (pe_str) (pa_cons (pe_call GY hr2 (by rfl) mY kY bY .nil pass0 (pa_cons (pv 0) (pa_cons (pv 2) pa_nil))) (pa_cons (pe_call GO hr2 (by rfl) mO kO bO .nil pass0 (pa_cons (pv 0) (pa_cons (pv 1) pa_nil))) (pa_cons (pe_call GO hr2 (by rfl) mO kO bO .nil pass0 (pa_cons (pv 0) (pa_cons (pv 1) pa_nil))) (pa_cons (pe_call GB hr2 (by rfl) mB kB bB .nil pass0 (pa_cons (pv 0) (pa_cons (pe_call GN hr2 (by rfl) mN kN bN .nil pass0 (pa_cons (pv 0) pa_nil)) pa_nil))) pa_nil))))))), ?_⟩
    refine ⟨_, rfl, _, rfl, p, q, cells, m, rfl, hS, m1, m2, fun lz G1 hlz S1 e1 => ?_⟩
    obtain ⟨a1, a2, a3⟩ := (hN.on e1).some_ nz
    refine ⟨_, rfl, _, rfl, p, q, cells, _, rfl, S1, .inl ⟨L, tVs zs, rfl, a1, a2, a3, fun i x G2 hx S2 B2 => ?_⟩⟩
    obtain ⟨za, rfl, wa⟩ := hN.it hx
    have e2 := e1.trans (But.exs B2)
    obtain ⟨a1, a2, a3⟩ := (hN.on e2).some_ nz
    refine ⟨_, rfl, _, rfl, p, q, cells, _, rfl, S2, .inl ⟨L, tVs zs, rfl, a1, a2, a3, fun i x G3 hx S3 B3 => ?_⟩⟩
    obtain ⟨zb, rfl, wb⟩ := hN.it hx
    refine ⟨_, rfl, _, rfl, p, q, cells, rfl, S3, fun T s G4 nT hT ln S4 e4 => ⟨p, q, cells, _, s, rfl, S4, ratP_dp (SqT.of hT), fun x g G5 hb hx S5 e5 => ⟨(show 5 ≤ sizeLine by decide), fun T hT => ?_⟩⟩⟩
    obtain ⟨h1, h2, h3⟩ := leaf_at S5 (.cons (.str "if") (.cons (.str lz) (.cons (.str za) (.cons (.str zb) (.cons (Dp.wosT S5.lsts _ _ (bare_noL hb) hx) .nil))))) hT
    exact k _ [.str lz, .str za, .str zb, g] _ rfl (.cons (.layer hlz) (.cons (.name wa) (.cons (.name wb) (.cons (.length (bare_len ln hb).1) .nil)))) h1 h2 ((((e2.trans (But.exs B3)).trans e4).trans e5).trans h3)
/-! ### _law_steps without tests -/
abbrev NSs : List Str := ["_law_src", "_law_names_here", "_law_fresh", "_law_layers", "_law_tests", "_law_found", "_law_here", "_law_word", "_law_step", "_law_head", "_law_parts", "_law_more", "_law_last"]
theorem scSteps : FnScope NSs ["_law_src", "_law_names_here", "_law_fresh", "_law_layers", "_law_tests"] (defScope s__law_steps) := ⟨rfl, rfl, rfl, by decide +kernel, rfl, by decide +kernel, by decide +kernel⟩
def spSteps (K : PySem.W.Frag) : Sp := fun vs H Q _ => ∃ (p q L F : Addr) (cells : List Int) (zs fs : List Str) (m : Int), vs = [.ref p, .ref L, .ref F, .int m, .int 0] ∧ Src H p q cells ∧ Nams K p H L zs ∧ Nams K p H F fs ∧ zs.length ≤ 10 ∧ fs.length ≤ 3 ∧ 1 ≤ m ∧ m ≤ 2 ∧
  ∀ (T D : Addr) (x : V) (ds : List PyData) (zs' : List Str) (H' : Hp), SqT K H' T [x, .ref D] → (∀ d ∈ ds, StD 1 d) → ds.length ≤ 4 → Dp K (wos [p] H') x (.tuple ds) → Nams K p H' D zs' → Src H' p q cells → Exs [p] H H' → Q (.ref T) H'
theorem ok_steps {f fA fE fS : Addr} {fd fdA fdE fdS : FuncData} (F : Fun K "_law_steps" "_law_steps" s__law_steps f fd) (srt : mg "sorted" = none)
    (GD : FnOk P w K mg base CX0 1 fD fdD ["_law_src", "_law_many"] spDraw) (mD : mg "_law_draw" = some (.ref fD)) (kD : PySem.W.keepIn K (.ref fD) = true) (bD : Binds K fdD ["_law_src", "_law_many"] [])
    (GA : FnOk P w K mg base CX0 3 fA fdA ["_law_src", "_law_names_here", "_law_fresh", "_law_layers"] (spSome K)) (mA : mg "_law_some_step" = some (.ref fA)) (kA : PySem.W.keepIn K (.ref fA) = true) (bA : Binds K fdA ["_law_src", "_law_names_here", "_law_fresh", "_law_layers"] [])
    (GE : FnOk P w K mg base CX0 1 fE fdE ["_law_names_here", "_law_step"] (spEnds K)) (mE : mg "_law_ends" = some (.ref fE)) (kE : PySem.W.keepIn K (.ref fE) = true) (bE : Binds K fdE ["_law_names_here", "_law_step"] [])
    (GS : FnOk P w K mg base CX0 3 fS fdS ["_law_src", "_law_names_here", "_law_layers", "_law_many"] (spStill K)) (mS : mg "_law_still" = some (.ref fS)) (kS : PySem.W.keepIn K (.ref fS) = true) (bS : Binds K fdS ["_law_src", "_law_names_here", "_law_layers", "_law_many"] []) :
    FnOk P w K mg base CX0 4 f fd ["_law_src", "_law_names_here", "_law_fresh", "_law_layers", "_law_tests"] (spSteps K) := by
  refine F.ok scSteps (fun vs H Q E h => ?_) (fun cdv A outer s H vs Q E hr h => ?_)
  · obtain ⟨p, q, L, F, cells, zs, fs, m, rfl, _⟩ := h
    rfl
  · obtain ⟨p, q, L, F, cells, zs, fs, m, rfl, hS, hN, hF, lz, lf, m1, m2, k⟩ := h
    have nd := scSteps.nd
    have hr1 : Room 1 _ := hr.mono (by decide)
    have hr3 : Room 3 _ := hr.mono (by decide)
    refine ⟨_, C8.pss_cut (ps_par (i := 5) (j := 6) (by rfl) nd rfl rfl (by decide) rfl rfl (pa_cons (pe_tup pa_nil) (pa_cons (pe_callB cr_sortedS (by rfl) srt (by decide +kernel) (pa_cons (pv 1) pa_nil)) pa_nil)) (by rfl))
        (C8.pss_cut (ps_for PassesOwn.never rfl (pi_list (pv 2)) (pg_name (i := 7) nd rfl (by first | exact Or.inl rfl | exact Or.inr rfl))
        (pss_cons (ps_set (i := 8) nd rfl (by first | exact Or.inl rfl | exact Or.inr rfl) (pe_call GA hr3 (by rfl) mA kA bA .nil pass0 (pa_cons (pv 0) (pa_cons (pv 6) (pa_cons (pv 7) (pa_cons (pv 3) pa_nil))))))
        (pss_one (ps_par (i := 5) (j := 6) (by rfl) nd rfl rfl (by decide) rfl rfl (pa_cons (pe_op op_catA (pv 5) (pe_tup (pa_cons (pv 8) pa_nil))) (pa_cons (pe_call GE hr1 (by rfl) mE kE bE .nil pass0 (pa_cons (pv 6) (pa_cons (pv 8) pa_nil))) pa_nil)) (by rfl)))))
        (pss_cons (ps_if (PW.pt (pw_and (pt_cmpR op_gt (pv 4) (pe_int) (nomark _)) (pw_and1 (pt_cmpR (op_neD hr.units) (pv 6) (pe_lst pa_nil) (nomark _))))) pss_false pss_nil)
        (pss_cons (ps_if (PW.pt (pw_and (pt_cmpR op_gt (pv 4) (pe_int) (nomark _)) (pw_and1 (pt_cmpR (op_neD hr.units) (pv 6) (pe_lst pa_nil) (nomark _))))) pss_false pss_nil)
        (C8.pss_cut (ps_if (pt_cmpR op_eq (pe_call GD hr1 (by rfl) mD kD bD .nil pass0 (pa_cons (pv 0) (pa_cons (pe_int) pa_nil))) (pe_int) (nomark _))
        (pss_one (ps_set (i := 5) nd rfl (by first | exact Or.inl rfl | exact Or.inr rfl) (pe_op op_catA (pv 5) (pe_tup (pa_cons (pe_tup (pa_cons (pe_str) (pa_cons (pe_op op_add pe_int (pe_call GD hr1 (by rfl) mD kD bD .nil pass0 (pa_cons (pv 0) (pa_cons (pe_int) pa_nil)))) (pa_cons (pe_call GS hr3 (by rfl) mS kS bS .nil pass0 (pa_cons (pv 0) (pa_cons (pv 6) (pa_cons (pv 3) (pa_cons (pe_int) pa_nil))))) pa_nil)))) pa_nil))))) pss_nil)
        (pss_one (ps_ret (pe_tup (pa_cons (pv 5) (pa_cons (pv 6) pa_nil))))))))), ?_⟩
    have sz : ∀ {n : Nat}, n ≤ 5 → n ≤ sizeLine := fun h => Nat.le_trans h (by decide)
    -- what stands behind the first statement, and after i turns
    let Iv : Nat → L2.St → Hp → Prop := fun i σ G => ∃ (o7 o8 : Option V) (D : Addr) (x : V) (ds : List PyData) (hs : List Str), σ = [some (.ref p), some (.ref L), some (.ref F), some (.int m), some (.int 0), some x, some (.ref D), o7, o8, none, none, none, none] ∧
      Src G p q cells ∧ Exs [p] H G ∧ Dp K (wos [p] G) x (.tuple ds) ∧ (∀ d ∈ ds, StD 1 d) ∧ ds.length ≤ i ∧ Nams K p G D hs ∧ hs.length ≤ 10 + i
    refine ⟨Iv 0, ?_, ?_⟩
    · refine ⟨sz (by simp), fun T hT => ⟨_, rfl, L, zs, rfl, ?_, by omega, fun os D pm _ hD => ⟨_, _, rfl, none, none, D, .ref T, [], os, rfl, (hS.put (hS.out hT)).put ((hS.put (hS.out hT)).out hD), ?_, ?_, all_nil, Nat.le_refl _, ⟨?_, fun z hz => hN.wd z (pm.mem_iff.mp hz), ?_⟩, ?_⟩⟩⟩
      · exact (hN.on (Exs.of (same_upd hT))).at_
      · exact (Exs.of (same_upd hT)).trans (Exs.of (same_upd hD))
      · exact Dp.same (Exs.of (same_upd hD)) _ _ (leaf_at hS .nil hT).1
      · exact SqL.of (by rw [wos_out (fun y => ((hS.put (hS.out hT)).out hD).1 (List.mem_singleton.mp y)), upd_same])
      · rw [pm.length_eq]
        omega
      · rw [pm.length_eq]
        omega
    rintro σ G ⟨o7, o8, D, x, ds, hs, rfl, S0, e0, hx, st0, l0, hD, lh⟩
    refine ⟨Iv 3, ?_, ?_⟩
    · refine ⟨_, rfl, F, rfl, ⟨_, (hF.on e0).at_⟩, for_list (K := K) (a := F) (xs := tVs fs) (fun i σ G => Iv i σ G) ⟨o7, o8, D, x, ds, hs, rfl, S0, e0, hx, st0, l0, hD, lh⟩ (fun i σ G _ ⟨_, _, _, _, _, _, _, _, e, _⟩ => (hF.on e).at_) ?_ ?_⟩
      · rintro i y σ G hy ⟨o7, o8, D, x, ds, hs, rfl, S0, e0, hx, st0, l0, hD, lh⟩
        have li : i < 3 := by
          have := (List.getElem?_eq_some_iff.mp hy).1
          rw [List.length_map] at this
          omega
        obtain ⟨fr, rfl, wf⟩ := hF.it hy
        refine ⟨_, rfl, _, rfl, _, rfl, _, rfl, p, q, D, cells, hs, fr, m, rfl, S0, hD, wf, m1, m2, fun y d G1 lfd hy S1 e1 => ?_⟩
        refine ⟨_, rfl, _, rfl, sz (by simp), fun T hT => ?_⟩
        obtain ⟨t1, S2, e2⟩ := leaf_at S1 (.cons hy .nil) hT
        refine cat_at S2 (Dp.same (e1.trans e2) _ _ hx) t1 (by simp; omega) fun z G3 hz S3 s3 => ?_
        have e3 : Exs [p] _ G3 := Exs.of s3
        have e13 := (e1.trans e2).trans e3
        refine ⟨_, rfl, _, rfl, D, _, hs, d, rfl, (hD.on e13).at_, hD.wd, hD.few, Dp.same wos_sub _ _ (Dp.same (e2.trans e3) _ _ hy), lfd, fun D2 zs2 G4 hD2 s4 hG4 w4 l4 => ?_⟩
        refine ⟨_, _, rfl, _, _, D2, z, _, zs2, rfl, ?_, (e0.trans e13).trans (Exs.of s4), Dp.same (Exs.of s4) _ _ hz, all_snoc st0 lfd.std.up, ?_, ⟨?_, w4, by omega⟩, by omega⟩
        · exact S3.same s4
        · rw [List.length_append, List.length_singleton]
          omega
        · exact SqL.of (by rw [wos_out (fun y => (S3.out hD2).1 (List.mem_singleton.mp y)), hG4])
      · rintro σ G ⟨o7, o8, D, x, ds, hs, rfl, S0, e0, hx, st0, l0, hD, lh⟩
        rw [List.length_map] at l0 lh
        exact ⟨o7, o8, D, x, ds, hs, rfl, S0, e0, hx, st0, by omega, hD, by omega⟩
    rintro σ G ⟨o7, o8, D, x, ds, hs, rfl, S0, e0, hx, st0, l0, hD, lh⟩
    refine ⟨_, rfl, _, _, rfl, rfl, _, rfl, ite2 (fun c => absurd c (by decide)) (fun _ => iteF ?_)⟩
    refine ⟨_, rfl, _, _, rfl, rfl, _, rfl, ite2 (fun c => absurd c (by decide)) (fun _ => iteF ?_)⟩
    refine ⟨fun σ G => ∃ (x : V) (ds : List PyData), σ = [some (.ref p), some (.ref L), some (.ref F), some (.int m), some (.int 0), some x, some (.ref D), o7, o8, none, none, none, none] ∧
      Src G p q cells ∧ Exs [p] H G ∧ Dp K (wos [p] G) x (.tuple ds) ∧ (∀ d ∈ ds, StD 1 d) ∧ ds.length ≤ 4 ∧ Nams K p G D hs, ?_, ?_⟩
    · refine ⟨_, rfl, p, q, cells, 5, rfl, S0, by decide, by decide, fun r1 G1 a1 c1 S1 B1 => ⟨rfl, _, rfl, ite2 (fun _ => ?_) (fun _ => ?_)⟩⟩
      · refine ⟨_, rfl, _, rfl, p, q, cells, 2, rfl, S1, by decide, by decide, fun r2 G2 a2 c2 S2 B2 => ?_⟩
        have e2 := (But.exs B1).trans (But.exs B2)
        refine ⟨_, _, rfl, rfl, _, rfl, _, rfl, _, rfl, p, q, D, cells, hs, m, 1, rfl, S2, hD.on e2, m1, m2, by decide, by decide, fun y es G3 se le hy S3 e3 => ⟨sz (by simp), fun T hT => ?_⟩⟩
        obtain ⟨t1, S4, e4⟩ := leaf_at S3 (.cons (.str "repeat") (.cons (.int (1 + r2)) (.cons hy .nil))) hT
        refine ⟨sz (by simp), fun T2 hT2 => ?_⟩
        obtain ⟨t2, S5, e5⟩ := leaf_at S4 (.cons t1 .nil) hT2
        have e25 := e2.trans (e3.trans (e4.trans e5))
        refine cat_at S5 (Dp.same e25 _ _ hx) t2 (by simp; omega) fun z G6 hz S6 s6 => ?_
        refine ⟨z, _, rfl, S6, (e0.trans e25).trans (Exs.of s6), hz, all_snoc st0 (rep_std (n := 0) (by omega) (by omega) se le), ?_, hD.on (e25.trans (Exs.of s6))⟩
        rw [List.length_append, List.length_singleton]
        omega
      · exact ⟨x, ds, rfl, S1, e0.trans (But.exs B1), Dp.same (But.exs B1) _ _ hx, st0, by omega, hD.on (But.exs B1)⟩
    rintro σ G ⟨x, ds, rfl, S0, e0, hx, st0, l0, hD⟩
    refine ⟨_, rfl, _, rfl, sz (by simp), fun T hT => ?_⟩
    have e1 : Exs [p] G (upd G T (.tup [x, .ref D])) := Exs.of (same_upd hT)
    exact k T D x ds hs _ (SqT.of upd_same) st0 l0 (Dp.same e1 _ _ hx) (hD.on e1) (S0.put (S0.out hT)) (e0.trans e1)
end
end Lw

set_option maxRecDepth 100000
set_option linter.unusedVariables false
namespace Lw
open PySem PySem.Spec PyProof.Rows L2 VG
/-! ### steps within one another -/
section
variable {P : Program} {w : World} {K : PySem.W.Frag} {mg : Str → Option Value} {base : Heap}
variable {fD : Addr} {fdD : FuncData}
abbrev NDp : List Str := ["_law_src", "_law_names_here", "_law_fresh", "_law_layers", "_law_steps_here", "_law_here", "_law_way", "_law_low_here"]
theorem scDeep : FnScope NDp ["_law_src", "_law_names_here", "_law_fresh", "_law_layers"] (defScope s__law_deep_steps) := ⟨rfl, rfl, rfl, by decide +kernel, rfl, by decide +kernel, by decide +kernel⟩
def spDeep (K : PySem.W.Frag) : Sp := fun vs H Q _ => ∃ (p q L F : Addr) (cells : List Int) (zs fs : List Str) (m : Int), vs = [.ref p, .ref L, .ref F, .int m] ∧ Src H p q cells ∧ Nams K p H L zs ∧ Nams K p H F fs ∧ zs.length ≤ 10 ∧ 1 ≤ m ∧ m ≤ 2 ∧
  ∀ (x : V) (ds : List PyData) (H' : Hp), (∀ d ∈ ds, StD 2 d) → ds.length ≤ 5 → Dp K (wos [p] H') x (.tuple ds) → Src H' p q cells → Exs [p] H H' → Q x H'
theorem all_up {n : Nat} {ds : List PyData} (h : ∀ d ∈ ds, StD n d) : ∀ d ∈ ds, StD (n + 1) d := fun d z => (h d z).up
theorem ok_deep {f fR fS fT : Addr} {fd fdR fdS fdT : FuncData} (F : Fun K "_law_deep_steps" "_law_deep_steps" s__law_deep_steps f fd)
    (GD : FnOk P w K mg base CX0 1 fD fdD ["_law_src", "_law_many"] spDraw) (mD : mg "_law_draw" = some (.ref fD)) (kD : PySem.W.keepIn K (.ref fD) = true) (bD : Binds K fdD ["_law_src", "_law_many"] [])
    (GR : FnOk P w K mg base CX0 4 fR fdR ["_law_src", "_law_names_here", "_law_fresh", "_law_layers", "_law_tests"] (spSteps K)) (mR : mg "_law_steps" = some (.ref fR)) (kR : PySem.W.keepIn K (.ref fR) = true) (bR : Binds K fdR ["_law_src", "_law_names_here", "_law_fresh", "_law_layers", "_law_tests"] [])
    (GS : FnOk P w K mg base CX0 3 fS fdS ["_law_src", "_law_names_here", "_law_layers", "_law_many"] (spStill K)) (mS : mg "_law_still" = some (.ref fS)) (kS : PySem.W.keepIn K (.ref fS) = true) (bS : Binds K fdS ["_law_src", "_law_names_here", "_law_layers", "_law_many"] [])
    (GT : FnOk P w K mg base CX0 3 fT fdT ["_law_src", "_law_names_here", "_law_layers"] (spTest K)) (mT : mg "_law_test" = some (.ref fT)) (kT : PySem.W.keepIn K (.ref fT) = true) (bT : Binds K fdT ["_law_src", "_law_names_here", "_law_layers"] []) :
    FnOk P w K mg base CX0 5 f fd ["_law_src", "_law_names_here", "_law_fresh", "_law_layers"] (spDeep K) := by
  refine F.ok scDeep (fun vs H Q E h => ?_) (fun cdv A outer s H vs Q E hr h => ?_)
  · obtain ⟨p, q, L, F, cells, zs, fs, m, rfl, _⟩ := h
    rfl
  · obtain ⟨p, q, L, F, cells, zs, fs, m, rfl, hS, hN, hF, lz, m1, m2, k⟩ := h
    have nd := scDeep.nd
    have hr1 : Room 1 _ := hr.mono (by decide)
    have hr3 : Room 3 _ := hr.mono (by decide)
    have hr4 : Room 4 _ := hr.mono (by decide)
    refine ⟨_, C8.pss_cut (ps_asg (pe_call GR hr4 (by rfl) mR kR bR .nil pass0 (pa_cons (pv 0) (pa_cons (pv 1) (pa_cons (pe_slice sl_list (pv 2) po_none (po_some pe_int)) (pa_cons (pv 3) (pa_cons (pe_int) pa_nil)))))) (pg_tup (by rfl) (pgs_cons (pg_name (i := 4) nd rfl (by first | exact Or.inl rfl | exact Or.inr rfl)) (pgs_cons (pg_name (i := 5) nd rfl (by first | exact Or.inl rfl | exact Or.inr rfl)) pgs_nil))))
        (C8.pss_cut (ps_set (i := 6) nd rfl (by first | exact Or.inl rfl | exact Or.inr rfl) (pe_call GD hr1 (by rfl) mD kD bD .nil pass0 (pa_cons (pv 0) (pa_cons (pe_int) pa_nil))))
        (C8.pss_cut (ps_if (PW.pt (pw_and (pt_cmpR (op_neD hr.units) (pv 5) (pe_lst pa_nil) (nomark _)) (pw_and1 (pt_cmpR op_eq (pv 6) (pe_int) (nomark _)))))
        (pss_cons (ps_set (i := 7) nd rfl (by first | exact Or.inl rfl | exact Or.inr rfl) (pe_tup (pa_cons (pe_op op_catA (pe_call GT hr3 (by rfl) mT kT bT .nil pass0 (pa_cons (pv 0) (pa_cons (pv 5) (pa_cons (pv 3) pa_nil)))) (pe_tup (pa_cons (pe_call GS hr3 (by rfl) mS kS bS .nil pass0 (pa_cons (pv 0) (pa_cons (pv 5) (pa_cons (pv 3) (pa_cons (pe_int) pa_nil))))) (pa_cons (pe_call GS hr3 (by rfl) mS kS bS .nil pass0 (pa_cons (pv 0) (pa_cons (pv 5) (pa_cons (pv 3) (pa_cons (pe_int) pa_nil))))) pa_nil)))) pa_nil)))
        (pss_one (ps_ret (pe_op op_catA (pv 4) (pe_tup (pa_cons (pe_op op_catA (pe_call GT hr3 (by rfl) mT kT bT .nil pass0 (pa_cons (pv 0) (pa_cons (pv 5) (pa_cons (pv 3) pa_nil)))) (pe_tup (pa_cons (pv 7) (pa_cons (pe_call GS hr3 (by rfl) mS kS bS .nil pass0 (pa_cons (pv 0) (pa_cons (pv 5) (pa_cons (pv 3) (pa_cons (pe_int) pa_nil))))) pa_nil)))) pa_nil)))))) pss_nil)
        (C8.pss_cut (ps_if (PW.pt (pw_and (pt_cmpR (op_neD hr.units) (pv 5) (pe_lst pa_nil) (nomark _)) (pw_and1 (pt_cmpR op_eq (pv 6) (pe_int) (nomark _)))))
        (pss_cons (ps_set (i := 7) nd rfl (by first | exact Or.inl rfl | exact Or.inr rfl) (pe_tup (pa_cons (pe_op op_catA (pe_call GT hr3 (by rfl) mT kT bT .nil pass0 (pa_cons (pv 0) (pa_cons (pv 5) (pa_cons (pv 3) pa_nil)))) (pe_tup (pa_cons (pe_call GS hr3 (by rfl) mS kS bS .nil pass0 (pa_cons (pv 0) (pa_cons (pv 5) (pa_cons (pv 3) (pa_cons (pe_int) pa_nil))))) (pa_cons (pe_tup pa_nil) pa_nil)))) pa_nil)))
        (pss_one (ps_ret (pe_op op_catA (pv 4) (pe_tup (pa_cons (pe_tup (pa_cons (pe_str) (pa_cons (pe_op op_add pe_int (pe_call GD hr1 (by rfl) mD kD bD .nil pass0 (pa_cons (pv 0) (pa_cons (pe_int) pa_nil)))) (pa_cons (pv 7) pa_nil)))) pa_nil)))))) pss_nil)
        (pss_one (ps_ret (pe_ifExp (pt_cmpR op_eq (pv 6) (pe_int) (nomark _)) (pe_op op_catA (pv 4) (pe_tup (pa_cons (pe_tup (pa_cons (pe_str) (pa_cons (pe_int) (pa_cons (pe_tup (pa_cons (pe_tup (pa_cons (pe_str) (pa_cons (pe_int) (pa_cons (pe_call GS hr3 (by rfl) mS kS bS .nil pass0 (pa_cons (pv 0) (pa_cons (pv 5) (pa_cons (pv 3) (pa_cons (pe_int) pa_nil))))) pa_nil)))) pa_nil)) pa_nil)))) pa_nil))) (pv 4))))))), ?_⟩
    have sz : ∀ {n : Nat}, n ≤ 5 → n ≤ sizeLine := fun h => Nat.le_trans h (by decide)
    refine ⟨fun σ G => ∃ (x : V) (D : Addr) (ds : List PyData) (hs : List Str), σ = [some (.ref p), some (.ref L), some (.ref F), some (.int m), some x, some (.ref D), none, none] ∧ Src G p q cells ∧ Exs [p] H G ∧ Dp K (wos [p] G) x (.tuple ds) ∧ (∀ d ∈ ds, StD 1 d) ∧ ds.length ≤ 4 ∧ Nams K p G D hs, ?_, ?_⟩
    · refine ⟨_, rfl, _, rfl, _, rfl, ?_⟩
      refine ⟨_, rfl, F, _, rfl, hF.at_, fun C hC => ?_⟩
      have eC : Exs [p] H (upd H C (.lst (cutV (tVs fs) none (some (3 : Int))))) := Exs.of (same_upd hC)
      have hC' : Nams K p (upd H C (.lst (cutV (tVs fs) none (some (3 : Int))))) C (cutN fs none (some (3 : Int))) := ⟨SqL.of (by rw [wos_out (fun y => (hS.out hC).1 (List.mem_singleton.mp y)), upd_same, cut_names]), fun z hz => hF.wd z (cutN_mem hz), Nat.le_trans (cutN_few (k := 3)) (by decide)⟩
      refine ⟨_, rfl, p, q, L, C, cells, zs, _, m, rfl, hS.put (hS.out hC), hN.on eC, hC', lz, cutN_few (k := 3), m1, m2, fun T D x ds hs G1 hT st l hx hD S1 e1 => ?_⟩
      exact ⟨T, _, rfl, hT, rfl, _, _, rfl, _, _, rfl, rfl, x, D, ds, hs, rfl, S1, eC.trans e1, hx, st, l, hD⟩
    rintro σ G ⟨x, D, ds, hs, rfl, S0, e0, hx, st, l, hD⟩
    refine ⟨fun σ G => ∃ (way : Int), σ = [some (.ref p), some (.ref L), some (.ref F), some (.int m), some x, some (.ref D), some (.int way), none] ∧ Src G p q cells ∧ Exs [p] H G ∧ Dp K (wos [p] G) x (.tuple ds) ∧ Nams K p G D hs, ?_, ?_⟩
    · exact ⟨_, rfl, p, q, cells, 4, rfl, S0, by decide, by decide, fun r1 G1 a1 c1 S1 B1 => ⟨r1, rfl, S1, e0.trans (But.exs B1), Dp.same (But.exs B1) _ _ hx, hD.on (But.exs B1)⟩⟩
    rintro σ G ⟨way, rfl, S0, e0, hx, hD⟩
    -- the end of each way
    have fin : ∀ {G1 : Hp} {y : V} {d : PyData}, Src G1 p q cells → Exs [p] H G1 → Dp K (wos [p] G1) x (.tuple ds) → Dp K (wos [p] G1) y (.tuple [d]) → StD 2 d → rCatA K x y G1 Q := fun {G1 y d} S1 e1 hx hy sd =>
      cat_at S1 hx hy (by simp; omega) fun z G2 hz S2 s2 => k z _ G2 (all_snoc (all_up st) sd) (by rw [List.length_append, List.length_singleton]; omega) hz S2 (e1.trans (Exs.of s2))
    -- test + (a, b)
    have tst : ∀ {G1 : Hp} {y v1 v2 : V} {as d1 d2 : List PyData} {T : Addr} {R : VK}, Src G1 p q cells → as.length = 4 → Dp K (wos [p] G1) y (.tuple (.str "if" :: as)) → Dp K (wos [p] G1) v1 (.tuple d1) → Dp K (wos [p] G1) v2 (.tuple d2) → G1 T = none →
        (∀ (z : V) (G2 : Hp), Dp K (wos [p] G2) z (.tuple (.str "if" :: (as ++ [.tuple d1, .tuple d2]))) → Src G2 p q cells → Exs [p] G1 G2 → R z G2) → rCatA K y (.ref T) (upd G1 T (.tup [v1, v2])) R := fun {G1 y v1 v2 as d1 d2 T R} S1 l4 hy h1 h2 hT r => by
      obtain ⟨t1, S2, e2⟩ := leaf_at S1 (.cons h1 (.cons h2 .nil)) hT
      exact cat_at S2 (Dp.same e2 _ _ hy) t1 (by rw [List.length_cons, l4]; exact (show 4 + 1 + 2 ≤ 1000 by decide)) fun z G2 hz S3 s3 => r z G2 hz S3 (e2.trans (Exs.of s3))
    let Mid : L2.St → Hp → Prop := fun σ G => ∃ (o7 : Option V), σ = [some (.ref p), some (.ref L), some (.ref F), some (.int m), some x, some (.ref D), some (.int way), o7] ∧ Src G p q cells ∧ Exs [p] H G ∧ Dp K (wos [p] G) x (.tuple ds) ∧ Nams K p G D hs
    refine ⟨Mid, ?_, ?_⟩
    · refine ⟨_, rfl, by decide, fun E hE => nams_ne hD hE ?_⟩
      have eE : Exs [p] G (upd G E (.lst [])) := Exs.of (same_upd hE)
      have S1 : Src (upd G E (.lst [])) p q cells := S0.put (S0.out hE)
      have e1 := e0.trans eE
      have hx1 := Dp.same eE _ _ hx
      have hD1 := hD.on eE
      by_cases z : hs = []
      · rw [decide_eq_true z]
        exact iteF ⟨_, rfl, S1, e1, hx1, hD1⟩
      rw [decide_eq_false z]
      refine iteT ⟨_, rfl, rfl, _, rfl, ite2 (fun _ => ?_) (fun _ => ⟨_, rfl, S1, e1, hx1, hD1⟩)⟩
      generalize upd G E (.lst []) = G1 at S1 e1 hx1 hD1
      clear eE
      -- low_here
      refine ⟨_, rfl, _, rfl, _, rfl, p, q, D, cells, hs, m, rfl, S1, hD1, z, m1, m2, fun y as G2 l4 ha hy S2 e2 => ?_⟩
      refine ⟨_, rfl, _, rfl, _, rfl, p, q, D, cells, hs, m, 2, rfl, S2, hD1.on e2, m1, m2, by decide, by decide, fun v1 d1 G3 s1 l1 h1 S3 e3 => ?_⟩
      refine ⟨_, rfl, _, rfl, _, rfl, p, q, D, cells, hs, m, 1, rfl, S3, hD1.on (e2.trans e3), m1, m2, by decide, by decide, fun v2 d2 G4 s2 l2 h2 S4 e4 => ⟨sz (by simp), fun T hT => ?_⟩⟩
      refine tst S4 l4 (Dp.same (e3.trans e4) _ _ hy) (Dp.same e4 _ _ h1) h2 hT fun u G5 hu S5 e5 => ⟨sz (by simp), fun T2 hT2 => ?_⟩
      have sd1 := if_std (n := 0) l4 ha s1 l1 s2 l2
      obtain ⟨hu, S6, e6⟩ := leaf_at S5 (.cons hu .nil) hT2
      have e26 := e2.trans (e3.trans (e4.trans (e5.trans e6)))
      generalize upd G5 T2 (.tup [u]) = G6 at hu S6 e6 e26
      -- the outer one
      refine ⟨_, rfl, _, rfl, _, rfl, _, rfl, p, q, D, cells, hs, m, rfl, S6, hD1.on e26, z, m1, m2, fun y2 as2 G7 l42 ha2 hy2 S7 e7 => ?_⟩
      refine ⟨_, rfl, _, rfl, _, rfl, _, rfl, p, q, D, cells, hs, m, 1, rfl, S7, hD1.on (e26.trans e7), m1, m2, by decide, by decide, fun v3 d3 G8 s3 l3 h3 S8 e8 => ⟨sz (by simp), fun T3 hT3 => ?_⟩⟩
      refine tst S8 l42 (Dp.same e8 _ _ hy2) (Dp.same (e7.trans e8) _ _ hu) h3 hT3 fun u2 G9 hu2 S9 e9 => ⟨sz (by simp), fun T4 hT4 => ?_⟩
      obtain ⟨hu3, S10, e10⟩ := leaf_at S9 (.cons hu2 .nil) hT4
      have e210 := e26.trans (e7.trans (e8.trans (e9.trans e10)))
      exact fin S10 (e1.trans e210) (Dp.same e210 _ _ hx1) hu3 (if_std (n := 1) l42 ha2 (all_cons sd1 all_nil) (by simp) (all_up s3) l3)
    rintro σ G ⟨o7, rfl, S0, e0, hx, hD⟩
    refine ⟨Mid, ?_, ?_⟩
    · refine ⟨_, rfl, by decide, fun E hE => nams_ne hD hE ?_⟩
      have eE : Exs [p] G (upd G E (.lst [])) := Exs.of (same_upd hE)
      have S1 : Src (upd G E (.lst [])) p q cells := S0.put (S0.out hE)
      have e1 := e0.trans eE
      have hx1 := Dp.same eE _ _ hx
      have hD1 := hD.on eE
      by_cases z : hs = []
      · rw [decide_eq_true z]
        exact iteF ⟨_, rfl, S1, e1, hx1, hD1⟩
      rw [decide_eq_false z]
      refine iteT ⟨_, rfl, rfl, _, rfl, ite2 (fun _ => ?_) (fun _ => ⟨_, rfl, S1, e1, hx1, hD1⟩)⟩
      generalize upd G E (.lst []) = G1 at S1 e1 hx1 hD1
      clear eE
      refine ⟨_, rfl, _, rfl, _, rfl, p, q, D, cells, hs, m, rfl, S1, hD1, z, m1, m2, fun y as G2 l4 ha hy S2 e2 => ?_⟩
      refine ⟨_, rfl, _, rfl, _, rfl, p, q, D, cells, hs, m, 1, rfl, S2, hD1.on e2, m1, m2, by decide, by decide, fun v1 d1 G3 s1 l1 h1 S3 e3 => ⟨sz (by simp), fun T0 hT0 => ?_⟩⟩
      obtain ⟨h2, S4, e4⟩ := leaf_at S3 .nil hT0
      refine ⟨sz (by simp), fun T hT => ?_⟩
      refine tst S4 l4 (Dp.same (e3.trans e4) _ _ hy) (Dp.same e4 _ _ h1) h2 hT fun u G5 hu S5 e5 => ⟨sz (by simp), fun T2 hT2 => ?_⟩
      have sd1 := if_std (n := 0) l4 ha s1 l1 (es := []) all_nil (by simp)
      obtain ⟨hu, S6, e6⟩ := leaf_at S5 (.cons hu .nil) hT2
      have e26 := e2.trans (e3.trans (e4.trans (e5.trans e6)))
      generalize upd G5 T2 (.tup [u]) = G6 at hu S6 e6 e26
      refine ⟨_, rfl, _, rfl, p, q, cells, 2, rfl, S6, by decide, by decide, fun r2 G7 a2 c2 S7 B7 => ⟨_, _, rfl, rfl, _, rfl, sz (by simp), fun T3 hT3 => ?_⟩⟩
      obtain ⟨t3, S8, e8⟩ := leaf_at S7 (.cons (.str "repeat") (.cons (.int (1 + r2)) (.cons (Dp.same (But.exs B7) _ _ hu) .nil))) hT3
      refine ⟨sz (by simp), fun T4 hT4 => ?_⟩
      obtain ⟨t4, S9, e9⟩ := leaf_at S8 (.cons t3 .nil) hT4
      have e29 := e26.trans ((But.exs B7).trans (e8.trans e9))
      exact fin S9 (e1.trans e29) (Dp.same e29 _ _ hx1) t4 (rep_std (n := 1) (by omega) (by omega) (all_cons sd1 all_nil) (by simp))
    rintro σ G ⟨o7, rfl, S0, e0, hx, hD⟩
    refine ⟨_, rfl, rfl, _, rfl, ite2 (fun _ => ?_) (fun _ => ⟨_, rfl, k x ds G (all_up st) (by omega) hx S0 e0⟩)⟩
    refine ⟨_, rfl, _, rfl, _, rfl, _, rfl, p, q, D, cells, hs, m, 1, rfl, S0, hD, m1, m2, by decide, by decide, fun v1 d1 G1 s1 l1 h1 S1 e1 => ⟨sz (by simp), fun T hT => ?_⟩⟩
    obtain ⟨t1, S2, e2⟩ := leaf_at S1 (.cons (.str "repeat") (.cons (.int 1) (.cons h1 .nil))) hT
    refine ⟨sz (by simp), fun T2 hT2 => ?_⟩
    obtain ⟨t2, S3, e3⟩ := leaf_at S2 (.cons t1 .nil) hT2
    refine ⟨sz (by simp), fun T3 hT3 => ?_⟩
    obtain ⟨t3, S4, e4⟩ := leaf_at S3 (.cons (.str "repeat") (.cons (.int 2) (.cons t2 .nil))) hT3
    refine ⟨sz (by simp), fun T4 hT4 => ?_⟩
    obtain ⟨t4, S5, e5⟩ := leaf_at S4 (.cons t3 .nil) hT4
    have e15 := e1.trans (e2.trans (e3.trans (e4.trans e5)))
    exact fin S5 (e0.trans e15) (Dp.same e15 _ _ hx) t4 (rep_std (n := 1) (by decide) (by decide) (all_cons (rep_std (n := 0) (by decide) (by decide) s1 l1) all_nil) (by simp))
end
end Lw

set_option maxRecDepth 100000
set_option linter.unusedVariables false
namespace Lw
open PySem PySem.Spec PyProof.Rows L2 VG
/-! ### the law's pairs -/
section
variable {P : Program} {w : World} {K : PySem.W.Frag} {mg : Str → Option Value} {base : Heap}

/-- t + u of data -/
theorem cat_same {G : Hp} {x y : V} {ds es : List PyData} {Q : VK} (hx : Dp K G x (.tuple ds)) (hy : Dp K G y (.tuple es)) (lz : ds.length + es.length ≤ 1000)
    (k : ∀ (z : V) (G' : Hp), Same G G' → Dp K G' z (.tuple (ds ++ es)) → Q z G') : rCatA K x y G Q := by
  obtain ⟨a, xs, rfl, hs, hd⟩ := dp_tup hx
  obtain ⟨b, ys, rfl, ht, he⟩ := dp_tup hy
  have l1 := DpAll.len hd
  have l2 := DpAll.len he
  refine ⟨a, b, xs, ys, rfl, rfl, hs, ht, ?_, fun z => k _ _ (Same.refl G) ?_, fun _ z => k _ _ (Same.refl G) ?_, fun _ _ T hT => k _ _ (same_upd hT) ?_⟩
  · exact Nat.le_trans (show xs.length + ys.length ≤ 1000 by omega) (by decide)
  · subst z
    cases hd
    exact hy
  · subst z
    cases he
    rw [List.append_nil]
    exact hx
  · exact .tup (SqT.of upd_same) (DpAll.same (same_upd hT) _ _ (DpAll.app hd he))
theorem slice_same {G : Hp} {a : Addr} {ds : List PyData} {n : Nat} {Q : VK} (hx : Dp K G (.ref a) (.tuple ds)) (k : ∀ (b : Addr) (G' : Hp), Same G G' → Dp K G' (.ref b) (.tuple (ds.take n)) → Q (.ref b) G') : rSlA K (.ref a) none (some (n : Int)) G Q := by
  obtain ⟨a', xs, e, hs, hd⟩ := dp_tup hx
  cases e
  have l1 := DpAll.len hd
  refine ⟨a, xs, rfl, hs, fun h => ?_, fun h T hT => ?_⟩
  · have h2 := h.2
    rw [HT.sIx_nat] at h2
    refine k _ _ (Same.refl G) ?_
    rw [List.take_of_length_le (by omega)]
    exact hx
  · refine k _ _ (same_upd hT) (.tup (SqT.of upd_same) (DpAll.same (same_upd hT) _ _ ?_))
    have e : cutV xs none (some (n : Int)) = xs.take n := by
      unfold cutV
      rw [HT.sIx_nat, HT.sIx_none, List.drop_zero, Nat.sub_zero]
      by_cases z : n ≤ xs.length
      · rw [Nat.min_eq_left z]
      · rw [Nat.min_eq_right (by omega), List.take_length, List.take_of_length_le (by omega)]
    rw [e]
    exact DpAll.takn n hd
variable {m j : Nat} {f fP : Addr} {fd fdP : FuncData}
abbrev NIp : List Str := ["_law_steps_here", "_law_found", "_law_step", "_law_late", "_law_one"]
theorem scInP : FnScope NIp ["_law_steps_here"] (defScope s__law_in_pairs) := ⟨rfl, rfl, rfl, by decide +kernel, rfl, by decide +kernel, by decide +kernel⟩
def spInP (K : PySem.W.Frag) (R : List PyData → List Str → List PyData → Prop) : Sp := fun vs H Q _ => ∃ (x : V) (ds : List PyData) (ws : List Str) (qs : List PyData), vs = [x] ∧ Dp K H x (.tuple ds) ∧ R ds ws qs ∧ ∀ (y : V) (H' : Hp), Dp K H' y (.tuple qs) → Same H H' → Q y H'
theorem ok_inP {R : List PyData → List Str → List PyData → Prop} (hj : 1 ≤ j) (hm : m ≤ 10) (F : Fun K "_law_in_pairs" "_law_in_pairs" s__law_in_pairs f fd) (isi : mg "isinstance" = none) (ms : mg "str" = none) (tpl : mg "tuple" = none)
    (GP : FnOk P w K mg base CX0 1 fP fdP ["_law_value"] (spPairL K)) (mP : mg "_law_pair" = some (.ref fP)) (kP : PySem.W.keepIn K (.ref fP) = true) (bP : Binds K fdP ["_law_value"] [])
    (GX : FnOk P w K mg base CX0 j f fd ["_law_steps_here"] (spInP K R)) (mX : mg "_law_in_pairs" = some (.ref f)) (kX : PySem.W.keepIn K (.ref f) = true) (bX : Binds K fd ["_law_steps_here"] [])
    : FnOk P w K mg base CX0 (j + 1) f fd ["_law_steps_here"] (spInP K (LT m (TS R))) := by
  refine F.ok scInP (fun vs H Q E h => ?_) (fun cdv A outer s H vs Q E hr h => ?_)
  · obtain ⟨_, _, _, _, rfl, _⟩ := h
    rfl
  · obtain ⟨x, ds, ws, ps, rfl, hx, ⟨hl, qs, pa, rfl, rfl⟩, k⟩ := h
    have nd := scInP.nd
    have hr1 : Room 1 _ := hr.mono hj
    refine ⟨_, pss_cons (ps_set (i := 1) nd rfl (by first | exact Or.inl rfl | exact Or.inr rfl) (pe_tup pa_nil))
        (pss_cons (ps_for PassesOwn.never rfl (pi_tup (pv 0)) (pg_name (i := 2) nd rfl (by first | exact Or.inl rfl | exact Or.inr rfl))
        (C8.pss_cut (ps_set (i := 3) nd rfl (by first | exact Or.inl rfl | exact Or.inr rfl) (pe_ifExp (pt_cmpR (show OpR _ _ (rIn K true) from op_notIn_seq) (pe_ix (show IxR _ (rIxT K) from ix_tup) (pv 2) pe_int fun _ _ => rfl) (pe_tup (pa_cons (pe_str) (pa_cons (pe_str) pa_nil))) (by with_unfolding_all rfl)) (pe_callTy call_tupleK (by rfl) tpl (by decide +kernel) (pa_cons (pe_lc (own := [("_law_one", 4)]) (g := gName 4) (tt := tYes) rfl nd (pi_tup (pe_slice sl_tupA (pv 2) po_none (po_some pe_int))) (blkOk_by (own := [("_law_one", 4)]) (N := NIp) (sc := defScope s__law_in_pairs) (by decide +kernel)) (fun _ _ _ _ _ => pg_name (i := 4) nd rfl (by first | exact Or.inl rfl | exact Or.inr rfl)) (fun _ _ _ _ _ => pts_nil) (fun _ _ _ _ _ => pe_ifExp (pt_not (pt_val (pe_callB (show CallR _ (.builtin "isinstance") (rIsi K) from call_isi) (by rfl) isi (by decide +kernel) (pa_cons (pv 4) (pa_cons (pe_bltn (v := .ty "str") (by rfl) ms (by decide +kernel) rfl) pa_nil))))) (pe_call GP hr1 (by rfl) mP kP bP .nil pass0 (pa_cons (pv 4) pa_nil)) (pv 4))) pa_nil)) (pv 2)))
        (C8.pss_cut (ps_if (pt_cmpR op_eq (pe_ix (show IxR _ (rIxT K) from ix_tup) (pv 2) pe_int fun _ _ => rfl) (pe_str) (nomark _))
        (pss_one (ps_set (i := 3) nd rfl (by first | exact Or.inl rfl | exact Or.inr rfl) (pe_op op_catA (pe_slice sl_tupA (pv 2) po_none (po_some pe_int)) (pe_tup (pa_cons (pe_call GP hr1 (by rfl) mP kP bP .nil pass0 (pa_cons (pe_ix (show IxR _ (rIxT K) from ix_tup) (pv 2) pe_int fun _ _ => rfl) pa_nil)) (pa_cons (pe_call GX hr (by rfl) mX kX bX .nil pass0 (pa_cons (pe_ix (show IxR _ (rIxT K) from ix_tup) (pv 2) pe_int fun _ _ => rfl) pa_nil)) (pa_cons (pe_call GX hr (by rfl) mX kX bX .nil pass0 (pa_cons (pe_ix (show IxR _ (rIxT K) from ix_tup) (pv 2) pe_int fun _ _ => rfl) pa_nil)) pa_nil))))))) pss_nil)
        (C8.pss_cut (ps_if (pt_cmpR op_eq (pe_ix (show IxR _ (rIxT K) from ix_tup) (pv 2) pe_int fun _ _ => rfl) (pe_str) (nomark _))
        (pss_one (ps_set (i := 3) nd rfl (by first | exact Or.inl rfl | exact Or.inr rfl) (pe_op op_catA (pe_slice sl_tupA (pv 2) po_none (po_some pe_int)) (pe_tup (pa_cons (pe_call GX hr (by rfl) mX kX bX .nil pass0 (pa_cons (pe_ix (show IxR _ (rIxT K) from ix_tup) (pv 2) pe_int fun _ _ => rfl) pa_nil)) pa_nil))))) pss_nil)
        (pss_one (ps_set (i := 1) nd rfl (by first | exact Or.inl rfl | exact Or.inr rfl) (pe_op op_catA (pv 1) (pe_tup (pa_cons (pv 3) pa_nil)))))))))
        (pss_one (ps_ret (pv 1)))), ?_⟩
    obtain ⟨a, xs, rfl, hT, hds⟩ := dp_tup hx
    have lx := DpAll.len hds
    have lq := paired_len2 pa
    refine ⟨(show 0 ≤ sizeLine by decide), fun T0 hT0 => ?_⟩
    refine ⟨_, rfl, a, rfl, ⟨_, Same.tup (same_upd hT0) hT⟩, for_tup (K := K) (a := a) (xs := xs) (fun i σ G => ∃ y o2 o3 o4, σ = [some (.ref a), some y, o2, o3, o4] ∧ Same H G ∧ Dp K G y (.tuple ((qs.take i).map Prod.snd))) ⟨_, _, _, _, rfl, same_upd hT0, .tup (SqT.of upd_same) .nil⟩ (fun i σ G _ ⟨_, _, _, _, _, e, _⟩ => Same.tup e hT) ?_ ?_⟩
    · rintro i v σ G hv ⟨y, o2, o3, o4, rfl, sm, hy⟩
      obtain ⟨d, hdi, hvd⟩ := DpAll.at' hds hv
      obtain ⟨q, hqi, hq⟩ := paired_at2 pa hdi
      have hvd := Dp.same sm _ _ hvd
      -- what each way leaves
      let Mid : L2.St → Hp → Prop := fun σ G' => ∃ z, σ = [some (.ref a), some y, some v, some z, o4] ∧ Same G G' ∧ Dp K G' z q.2
      have hd : ∃ u items, d = .tuple (.str u :: items) := by
        rcases hq with ⟨u, ks, items, _, e, _⟩ | ⟨as, d1, d2, w1, w2, p1, p2, _, e, _⟩ | ⟨n, d1, w1, p1, e, _⟩ <;> exact ⟨_, _, e⟩
      obtain ⟨u, items, rfl⟩ := hd
      obtain ⟨T, ys0, rfl, hT1, hys0⟩ := dp_tup hvd
      obtain ⟨ys, rfl, hys⟩ := dp_word hys0
      have h0 : atI (V.str u :: ys) 0 = some (V.str u) := atI_nat (j := 0) rfl
      have at0 : ∀ {G' : Hp}, Same G G' → SqT K G' T (V.str u :: ys) := fun e => Same.tup e hT1
      have no : ∀ {a b : Str} {S S' : Prop}, a ≠ b → S' → (if decide (V.str a = V.str b) = true then S else S') := fun {a b S S'} n t => by
        rw [str_cmp, decide_eq_false n]
        exact iteF t
      have yes : ∀ {a : Str} {S S' : Prop}, S → (if decide (V.str a = V.str a) = true then S else S') := fun {a S S'} t => by
        rw [decide_eq_true rfl]
        exact iteT t
      have inn : inV (V.str u) [.str "repeat", .str "if"] = (decide ("repeat" = u) || decide ("if" = u)) := by
        show (eqV (.str "repeat") (.str u) || (eqV (.str "if") (.str u) || false)) = _
        rw [Bool.or_false]
        rfl
      rcases hq with ⟨u', ks, items', hm, e, ew, ep, hk, _⟩ | ⟨as, d1, d2, w1, w2, p1, p2, hk, e, ep, r1, r2, ew⟩ | ⟨n, d1, w1, p1, e, ep, k1, k3, r1, ew⟩
      · obtain ⟨e1, e2⟩ := List.cons.inj (PyData.tuple.inj e)
        cases e1
        subst e2
        obtain ⟨n1, n2⟩ := shl_at hm
        have l4 : ks.length ≤ 4 := (shl_words _ hm).2.2.2
        have lk := paired_len2 hk
        refine ⟨Mid, ?_, ?_⟩
        · refine ⟨_, rfl, _, _, _, _, rfl, rfl, hT1, h0, (show 2 ≤ sizeLine by decide), fun T1 hT1' => ⟨T1, [.str "repeat", .str "if"], rfl, .inr (SqT.of upd_same), rfl, rfl, _, rfl, ?_⟩⟩
          rw [show (if true = true then !inV (V.str u) [.str "repeat", .str "if"] else inV (V.str u) [.str "repeat", .str "if"]) = true by
            rw [if_pos rfl, inn, decide_eq_false (fun z => n2 z.symm), decide_eq_false (fun z => n1 z.symm)]
            rfl]
          have s1 := same_upd (o := .tup [.str "repeat", .str "if"]) hT1'
          refine iteT ⟨_, rfl, 5, rfl, slice_same (n := 5) (Dp.same s1 _ _ hvd) fun b G2 s2 hb => ?_⟩
          have ta : (PyData.str u :: items).take 5 = PyData.str u :: items := List.take_of_length_le (by rw [List.length_cons]; omega)
          rw [ta] at hb
          obtain ⟨b', zs, eb, hb1, hzs⟩ := dp_tup hb
          cases eb
          refine ⟨b, rfl, ⟨_, hb1⟩, fun D hD => ?_⟩
          have kk : ∀ e ∈ PyData.str u :: items, (∃ z, e = .str z) ∨ okR e = true := fun e he => by
            rcases List.mem_cons.mp he with rfl | he
            · exact .inl ⟨_, rfl⟩
            · rcases kinds_atoms hk e he with ⟨z, rfl, _⟩ | ⟨h, _⟩
              · exact .inl ⟨_, rfl⟩
              · exact .inr h
          have sD := same_upd (o := .lst []) hD
          refine lc_tup (K := K) (a := b) (xs := zs) (fun t G3 => Same G2 G3 ∧ Acc K [] D G3 (((PyData.str u :: items).take t).map pItem)) ⟨sD, Acc.start⟩ (fun t G3 _ c => Same.tup c.1 hb1) (fun t w G3 hw c => ?_) (fun G3 c => ?_)
          · obtain ⟨s3, ct⟩ := c
            obtain ⟨e, he, hwe⟩ := DpAll.at' hzs hw
            have hwe := Dp.same s3 _ _ hwe
            have lt : t < 6 := by
              have := (List.getElem?_eq_some_iff.mp he).1
              rw [List.length_cons] at this
              omega
            have fin : ∀ {y : V} {G4 : Hp}, Same G3 G4 → Dp K G4 y (pItem e) → noL (pItem e) = true → ∃ acc, G4 D = some (.lst acc) ∧ acc.length < sizeLine ∧ Same G2 (upd G4 D (.lst (acc ++ [y]))) ∧ Acc K [] D (upd G4 D (.lst (acc ++ [y]))) (((PyData.str u :: items).take (t + 1)).map pItem) := fun {y G4} s4 hy hn => by
              obtain ⟨acc, a1, a2, a3⟩ := ct.putX (S' := []) (Exs.of s4) (fun _ h => h) (by simp) (by simp) hn hy
              refine ⟨acc, a1, ?_, fun b o hb => ?_, ?_⟩
              · rw [a2, List.length_map, List.length_take]
                exact Nat.lt_of_le_of_lt (Nat.min_le_left _ _) (Nat.lt_of_lt_of_le lt (by decide))
              · rw [upd_ne (ne_of_none hb hD)]
                exact s4 _ _ (s3 _ _ hb)
              · have et : (PyData.str u :: items).take (t + 1) = (PyData.str u :: items).take t ++ [e] := by
                  rw [List.take_add_one, he]
                  rfl
                rw [et, List.map_append]
                exact a3
            refine ⟨rfl, ?_⟩
            rcases kk e (List.mem_of_getElem? he) with ⟨z, rfl⟩ | ok
            · cases hwe
              exact ⟨_, rfl, _, _, _, _, true, rfl, .ty "str", .base (.str z), kit_ty (by decide +kernel), _, rfl, iteF ⟨_, rfl, fin (Same.refl _) (.str _) rfl⟩⟩
            · obtain ⟨t1, t2, t3⟩ := num_isi hwe ok
              refine ⟨_, rfl, _, _, _, _, false, rfl, .ty "str", t2, t3, _, rfl, iteT ⟨_, rfl, w, e, rfl, hwe, ok, fun Tp G4 s4 hp => fin s4 ?_ ?_⟩⟩
              · rw [pair_form ok]
                exact .tup hp (.cons (.int _) (.cons (.int _) .nil))
              · rw [pair_form ok]
                rfl
          · obtain ⟨s3, ct⟩ := c
            rw [DpAll.len hzs, List.take_length] at ct
            obtain ⟨acc, h1, h2⟩ := ct.ex
            refine ⟨D, acc, rfl, .inl ⟨SqL.of h1, fun l hl => ⟨_, rfl, ((s1.trans s2).trans s3).trans (same_upd hl), ?_⟩⟩⟩
            rw [ep]
            exact .tup (SqT.of upd_same) (DpAll.same (wos_sub.trans (same_upd hl)) _ _ h2)
        rintro σ G1 ⟨z, rfl, s1, hz⟩
        refine ⟨Mid, ⟨_, rfl, _, _, _, _, rfl, rfl, at0 s1, h0, rfl, _, rfl, no n1 ⟨z, rfl, s1, hz⟩⟩, ?_⟩
        rintro σ G1 ⟨z, rfl, s1, hz⟩
        refine ⟨Mid, ⟨_, rfl, _, _, _, _, rfl, rfl, at0 s1, h0, rfl, _, rfl, no n2 ⟨z, rfl, s1, hz⟩⟩, ?_⟩
        rintro σ G1 ⟨z, rfl, s1, hz⟩
        exact (by
          refine ⟨_, rfl, _, rfl, (show 1 ≤ sizeLine by decide), fun T9 hT9 => ?_⟩
          have s9 := same_upd (o := .tup [z]) hT9
          refine cat_same (es := [q.2]) (Dp.same (s1.trans s9) _ _ hy) (.tup (SqT.of upd_same) (.cons (Dp.same s9 _ _ hz) .nil)) ?_ fun z2 G2 s2 hz2 => ⟨z2, _, _, _, rfl, ((sm.trans s1).trans s9).trans s2, ?_⟩
          · rw [List.length_map, List.length_take]
            simp only [List.length_cons, List.length_nil]
            omega
          · have et : qs.take (i + 1) = qs.take i ++ [q] := by
              rw [List.take_add_one, hqi]
              rfl
            rw [et, List.map_append]
            exact hz2)
      · obtain ⟨e1, e2⟩ := List.cons.inj (PyData.tuple.inj e)
        cases e1
        subst e2
        have l4 : as.length = 4 := (paired_len2 hk).symm
        refine ⟨fun σ G' => σ = [some (.ref a), some y, some (.ref T), some (.ref T), o4] ∧ Same G G', ?_, ?_⟩
        · refine ⟨_, rfl, _, _, _, _, rfl, rfl, hT1, h0, (show 2 ≤ sizeLine by decide), fun T1 hT1' => ⟨T1, [.str "repeat", .str "if"], rfl, .inr (SqT.of upd_same), rfl, rfl, _, rfl, ?_⟩⟩
          rw [show (if true = true then !inV (V.str "if") [.str "repeat", .str "if"] else inV (V.str "if") [.str "repeat", .str "if"]) = false by decide +kernel]
          exact iteF ⟨_, rfl, rfl, same_upd hT1'⟩
        rintro σ G1 ⟨rfl, s1⟩
        refine ⟨Mid, ?_, ?_⟩
        · refine ⟨_, rfl, _, _, _, _, rfl, rfl, at0 s1, h0, rfl, _, rfl, yes ?_⟩
          obtain ⟨zs, v1, v2, rfl, lz, hzs, hv1, hv2⟩ := split4 l4 hys
          have ha4 : ∃ b1 b2 b3 b4, as = [b1, b2, b3, b4] := by
            match as, l4 with
            | [b1, b2, b3, b4], _ => exact ⟨b1, b2, b3, b4, rfl⟩
          obtain ⟨b1, b2, b3, b4, rfl⟩ := ha4
          obtain ⟨c1, c2, c3, c4, rfl⟩ : ∃ c1 c2 c3 c4, zs = [c1, c2, c3, c4] := by
            match zs, lz with
            | [c1, c2, c3, c4], _ => exact ⟨c1, c2, c3, c4, rfl⟩
          cases hk with
          | cons k1 t =>
          cases t with
          | cons k2 t =>
          cases t with
          | cons k3 t =>
          cases t with
          | cons k4 t =>
          cases hzs with
          | cons z1 t =>
          cases t with
          | cons z2 t =>
          cases t with
          | cons z3 t =>
          cases t with
          | cons z4 t =>
          have s3 : ∀ {kd : Str} {b : PyData}, KindOk kd b → kd ≠ "length" → kd ≠ "scale" → pItem b = b := fun h n1 n2 => by
            cases h with
            | layer h => rfl
            | name h => rfl
            | new h => rfl
            | length h => exact absurd rfl n1
            | scale h g => exact absurd rfl n2
          have p1e := s3 k1 (by decide +kernel) (by decide +kernel)
          have p2e := s3 k2 (by decide +kernel) (by decide +kernel)
          have p3e := s3 k3 (by decide +kernel) (by decide +kernel)
          have ok4 : okR b4 = true := by
            cases k4 with
            | length h => exact h.1
          refine ⟨_, rfl, 4, rfl, slice_same (n := 4) (Dp.same s1 _ _ hvd) fun b G2 s2 hb => ?_⟩
          have s12 := s1.trans s2
          refine ⟨_, rfl, _, _, _, _, rfl, rfl, at0 s12, atI_nat (j := 4) rfl, c4, b4, rfl, Dp.same s12 _ _ z4, ok4, fun Tp G3 s3 hp => ?_⟩
          have s13 := s12.trans s3
          refine ⟨_, rfl, _, _, _, _, rfl, rfl, at0 s13, atI_nat (j := 5) rfl, v1, d1, w1, p1, rfl, Dp.same s13 _ _ hv1, r1, fun x1 G4 hx1 s4 => ?_⟩
          have s14 := s13.trans s4
          refine ⟨_, rfl, _, _, _, _, rfl, rfl, at0 s14, atI_nat (j := 6) rfl, v2, d2, w2, p2, rfl, Dp.same s14 _ _ hv2, r2, fun x2 G5 hx2 s5 => ⟨(show 3 ≤ sizeLine by decide), fun T3 hT3 => ?_⟩⟩
          have s6 := same_upd (o := .tup [.ref Tp, x1, x2]) hT3
          have hp4 : Dp K G3 (.ref Tp) (pItem b4) := by
            rw [pair_form ok4]
            exact .tup hp (.cons (.int _) (.cons (.int _) .nil))
          refine cat_same (es := [pItem b4, .tuple p1, .tuple p2]) (Dp.same (((s3.trans s4).trans s5).trans s6) _ _ hb) (.tup (SqT.of upd_same) (.cons (Dp.same ((s4.trans s5).trans s6) _ _ hp4) (.cons (Dp.same (s5.trans s6) _ _ hx1) (.cons (Dp.same s6 _ _ hx2) .nil)))) (by simp) fun z G7 s7 hz => ⟨z, rfl, ((s14.trans s5).trans s6).trans s7, ?_⟩
          rw [ep]
          have e : (PyData.str "if" :: [b1, b2, b3, b4].map pItem ++ [.tuple p1, .tuple p2]) = PyData.str "if" :: b1 :: b2 :: b3 :: pItem b4 :: [.tuple p1, .tuple p2] := by
            simp [p1e, p2e, p3e]
          have e2 : (PyData.str "if" :: ([b1, b2, b3, b4] ++ [PyData.tuple d1, .tuple d2])).take 4 ++ [pItem b4, .tuple p1, .tuple p2] = PyData.str "if" :: b1 :: b2 :: b3 :: pItem b4 :: [.tuple p1, .tuple p2] := rfl
          rw [e2] at hz
          rw [← List.cons_append, e]
          exact hz
        rintro σ G1 ⟨z, rfl, s1, hz⟩
        refine ⟨Mid, ⟨_, rfl, _, _, _, _, rfl, rfl, at0 s1, h0, rfl, _, rfl, no (by decide +kernel) ⟨z, rfl, s1, hz⟩⟩, ?_⟩
        rintro σ G1 ⟨z, rfl, s1, hz⟩
        exact (by
          refine ⟨_, rfl, _, rfl, (show 1 ≤ sizeLine by decide), fun T9 hT9 => ?_⟩
          have s9 := same_upd (o := .tup [z]) hT9
          refine cat_same (es := [q.2]) (Dp.same (s1.trans s9) _ _ hy) (.tup (SqT.of upd_same) (.cons (Dp.same s9 _ _ hz) .nil)) ?_ fun z2 G2 s2 hz2 => ⟨z2, _, _, _, rfl, ((sm.trans s1).trans s9).trans s2, ?_⟩
          · rw [List.length_map, List.length_take]
            simp only [List.length_cons, List.length_nil]
            omega
          · have et : qs.take (i + 1) = qs.take i ++ [q] := by
              rw [List.take_add_one, hqi]
              rfl
            rw [et, List.map_append]
            exact hz2)
      · obtain ⟨e1, e2⟩ := List.cons.inj (PyData.tuple.inj e)
        cases e1
        subst e2
        refine ⟨fun σ G' => σ = [some (.ref a), some y, some (.ref T), some (.ref T), o4] ∧ Same G G', ?_, ?_⟩
        · refine ⟨_, rfl, _, _, _, _, rfl, rfl, hT1, h0, (show 2 ≤ sizeLine by decide), fun T1 hT1' => ⟨T1, [.str "repeat", .str "if"], rfl, .inr (SqT.of upd_same), rfl, rfl, _, rfl, ?_⟩⟩
          rw [show (if true = true then !inV (V.str "repeat") [.str "repeat", .str "if"] else inV (V.str "repeat") [.str "repeat", .str "if"]) = false by decide +kernel]
          exact iteF ⟨_, rfl, rfl, same_upd hT1'⟩
        rintro σ G1 ⟨rfl, s1⟩
        refine ⟨fun σ G' => σ = [some (.ref a), some y, some (.ref T), some (.ref T), o4] ∧ Same G G', ⟨_, rfl, _, _, _, _, rfl, rfl, at0 s1, h0, rfl, _, rfl, no (by decide +kernel) ⟨rfl, s1⟩⟩, ?_⟩
        rintro σ G1 ⟨rfl, s1⟩
        refine ⟨Mid, ?_, ?_⟩
        · refine ⟨_, rfl, _, _, _, _, rfl, rfl, at0 s1, h0, rfl, _, rfl, yes ?_⟩
          obtain ⟨v1, v2, rfl, hv1, hv2⟩ := dpAll2 hys
          refine ⟨_, rfl, 2, rfl, slice_same (n := 2) (Dp.same s1 _ _ hvd) fun b G2 s2 hb => ?_⟩
          have s12 := s1.trans s2
          refine ⟨_, rfl, _, _, _, _, rfl, rfl, at0 s12, atI_nat (j := 2) rfl, v2, d1, w1, p1, rfl, Dp.same s12 _ _ hv2, r1, fun x1 G4 hx1 s4 => ⟨(show 1 ≤ sizeLine by decide), fun T3 hT3 => ?_⟩⟩
          have s6 := same_upd (o := .tup [x1]) hT3
          refine cat_same (es := [.tuple p1]) (Dp.same (s4.trans s6) _ _ hb) (.tup (SqT.of upd_same) (.cons (Dp.same s6 _ _ hx1) .nil)) (by simp) fun z G7 s7 hz => ⟨z, rfl, ((s12.trans s4).trans s6).trans s7, ?_⟩
          rw [ep]
          exact hz
        rintro σ G1 ⟨z, rfl, s1, hz⟩
        exact (by
          refine ⟨_, rfl, _, rfl, (show 1 ≤ sizeLine by decide), fun T9 hT9 => ?_⟩
          have s9 := same_upd (o := .tup [z]) hT9
          refine cat_same (es := [q.2]) (Dp.same (s1.trans s9) _ _ hy) (.tup (SqT.of upd_same) (.cons (Dp.same s9 _ _ hz) .nil)) ?_ fun z2 G2 s2 hz2 => ⟨z2, _, _, _, rfl, ((sm.trans s1).trans s9).trans s2, ?_⟩
          · rw [List.length_map, List.length_take]
            simp only [List.length_cons, List.length_nil]
            omega
          · have et : qs.take (i + 1) = qs.take i ++ [q] := by
              rw [List.take_add_one, hqi]
              rfl
            rw [et, List.map_append]
            exact hz2)
    · rintro σ G ⟨y, o2, o3, o4, rfl, sm, hy⟩
      rw [lx, lq, List.take_length] at hy
      exact ⟨_, rfl, k y G hy sm⟩
end
end Lw

set_option maxRecDepth 100000
set_option linter.unusedVariables false
namespace Lw
open PySem PySem.Spec PyProof.Rows L2 VG
/-! ### the law -/
def litD : PyData := .tuple [.str "place", .str "foot", .str "cart", .int 0, .tuple [.int 7, .int 3]]
def litP : PyData := .tuple [.str "place", .str "foot", .str "cart", .tuple [.int 0, .int 1], .tuple [.int 7, .int 3]]
theorem lit_words : ∃ ws, LT 10 (TW 2) [litD] ws [litP] ∧ joined ws = "place foot cart 0 7/3" := by
  have l0 : LenD (.int 0) := ⟨rfl, by decide, by decide, by decide⟩
  have l1 : LenD (.tuple [.int 7, .int 3]) := ⟨by decide +kernel, by decide +kernel, by decide +kernel, by decide +kernel⟩
  have lf : TLeaf litD ("place" :: [PyData.str "foot", .str "cart", .int 0, .tuple [.int 7, .int 3]].map txtD) litP := ⟨"place", ["new", "name", "length", "length"], [.str "foot", .str "cart", .int 0, .tuple [.int 7, .int 3]], by decide +kernel, rfl, rfl, rfl, .cons (.new ⟨by decide +kernel, by decide +kernel⟩) (.cons (.name ⟨by decide +kernel, by decide +kernel⟩) (.cons (.length l0) (.cons (.length l1) .nil))), fun e => absurd e (by decide +kernel)⟩
  exact ⟨_, ⟨by decide, [(_, litP)], .cons (tw_up 1 (tw_up 0 (.inl lf))) .nil, rfl, rfl⟩, by decide +kernel⟩
theorem nil_lt : LT 10 (TW 2) [] [] [] := ⟨by decide, [], .nil, rfl, rfl⟩
theorem joined_nil : joined [] = "" := by decide +kernel
section
variable {P : Program} {w : World} {K : PySem.W.Frag} {mg : Str → Option Value} {base : Heap}
theorem ok_lws3 {f fX : Addr} {fd fdX : FuncData} (T : Nm mg) (ts : mg "str" = none) (F : Fun K "_law_words" "_law_words" s__law_words f fd)
    (GX : FnOk P w K mg base CX0 2 fX fdX ["_law_value"] (spTextL K)) (mX : mg "_law_text" = some (.ref fX)) (kX : PySem.W.keepIn K (.ref fX) = true) (bX : Binds K fdX ["_law_value"] [])
    (mL : mg "_law_words" = some (.ref f)) (kL : PySem.W.keepIn K (.ref f) = true) (bL : Binds K fd ["_law_steps_here"] []) : FnOk P w K mg base CX0 5 f fd ["_law_steps_here"] (spWs K (LW 10 (SW 2))) := by
  have g0 : FnOk P w K mg base CX0 2 f fd ["_law_steps_here"] (spWs K fun _ _ => False) := ok_never.imp fun vs H Q E h => by
    obtain ⟨_, _, _, _, _, z, _⟩ := h
    exact z
  have sz : ∀ {n : Nat}, szN n ≤ 200 → ∀ ds ws, LW 2 (SW n) ds ws → Sz 490 ws := fun {n} hn ds ws z => by
    obtain ⟨l, a⟩ := lw_size (fun d ws z => sw_size n z) z
    exact ⟨by omega, a⟩
  have g1 : FnOk P w K mg base CX0 3 f fd ["_law_steps_here"] (spWs K (LW 2 (SW 0))) := ok_lws (m := 2) (by decide) (by decide) (fun _ _ z => z.elim) T ts F GX mX kX bX g0 mL kL bL
  have g2 : FnOk P w K mg base CX0 4 f fd ["_law_steps_here"] (spWs K (LW 2 (SW 1))) := ok_lws (m := 2) (by decide) (by decide) (sz (n := 0) (by decide)) T ts F GX mX kX bX g1 mL kL bL
  exact ok_lws (m := 10) (by decide) (by decide) (sz (n := 1) (by decide)) T ts F GX mX kX bX g2 mL kL bL
/-- a def by its name: where it stands, what it does -/
structure Gv (P : Program) (w : World) (K : PySem.W.Frag) (mg : Str → Option Value) (base : Heap) (k : Nat) (x : Str) (ps : List Str) (sp : Sp) (f : Addr) (fd : FuncData) : Prop where
  ok : FnOk P w K mg base CX0 k f fd ps sp
  at_ : mg x = some (.ref f)
  kp : PySem.W.keepIn K (.ref f) = true
  bd : Binds K fd ps []

theorem ok_inP3 {f fP : Addr} {fd fdP : FuncData} (F : Fun K "_law_in_pairs" "_law_in_pairs" s__law_in_pairs f fd) (isi : mg "isinstance" = none) (ms : mg "str" = none) (tpl : mg "tuple" = none)
    (GP : FnOk P w K mg base CX0 1 fP fdP ["_law_value"] (spPairL K)) (mP : mg "_law_pair" = some (.ref fP)) (kP : PySem.W.keepIn K (.ref fP) = true) (bP : Binds K fdP ["_law_value"] [])
    (mX : mg "_law_in_pairs" = some (.ref f)) (kX : PySem.W.keepIn K (.ref f) = true) (bX : Binds K fd ["_law_steps_here"] []) : FnOk P w K mg base CX0 4 f fd ["_law_steps_here"] (spInP K (LT 10 (TW 2))) := by
  have g0 : FnOk P w K mg base CX0 1 f fd ["_law_steps_here"] (spInP K fun _ _ _ => False) := ok_never.imp fun vs H Q E h => by
    obtain ⟨_, _, _, _, _, _, z, _⟩ := h
    exact z
  have g1 : FnOk P w K mg base CX0 2 f fd ["_law_steps_here"] (spInP K (LT 2 (TW 0))) := ok_inP (m := 2) (by decide) (by decide) F isi ms tpl GP mP kP bP g0 mX kX bX
  have g2 : FnOk P w K mg base CX0 3 f fd ["_law_steps_here"] (spInP K (LT 2 (TW 1))) := ok_inP (m := 2) (by decide) (by decide) F isi ms tpl GP mP kP bP g1 mX kX bX
  exact ok_inP (m := 10) (by decide) (by decide) F isi ms tpl GP mP kP bP g2 mX kX bX
abbrev NLaw : List Str := ["_law_script", "_law_src", "_law_turn", "_law_words_here", "_law_layers", "_law_steps_here", "_law_text_z"]
theorem scLaw : FnScope NLaw ["_law_script"] (defScope sLaw) := ⟨rfl, rfl, rfl, by decide +kernel, rfl, by decide +kernel, by decide +kernel⟩
def spLaw (K : PySem.W.Frag) : Sp := fun vs H Q _ => ∃ (a : Addr) (ns : List Int), vs = [.ref a] ∧ SqL K H a (ns.map V.int) ∧ ns.length ≤ 63 ∧ ∀ H', Q (.bl true) H'
theorem ok_law {f fU fD fN fP fT fW fE fR fX : Addr} {fd fdU fdD fdN fdP fdT fdW fdE fdR fdX : FuncData} (F : Fun K "law" "law" sLaw f fd) (rng : mg "range" = none)
    (GU : Gv P w K mg base 1 "_law_source" ["_law_script"] (spSource K) fU fdU)
    (GD : Gv P w K mg base 1 "_law_draw" ["_law_src", "_law_many"] spDraw fD fdD)
    (GN : Gv P w K mg base 3 "_law_names" ["_law_src", "_law_many"] (spLNames K) fN fdN)
    (GP : Gv P w K mg base 5 "_law_deep_steps" ["_law_src", "_law_names_here", "_law_fresh", "_law_layers"] (spDeep K) fP fdP)
    (GT : Gv P w K mg base 14 "text_of" ["steps"] (spTextOf K) fT fdT)
    (GR : Gv P w K mg base 19 "read_steps" ["text"] (spReadS K) fR fdR) (kR : KBn K fdR ["text"] 0 ["text"] (fun _ ws => ws) (fun _ ws => ws))
    (GX : Gv P w K mg base 4 "_law_in_pairs" ["_law_steps_here"] (spInP K (LT 10 (TW 2))) fX fdX)
    (GW : Gv P w K mg base 5 "_law_words" ["_law_steps_here"] (spWs K (LW 10 (SW 2))) fW fdW)
    (GE : FnG P w K mg base CX0 1 fE fdE ["_law_found", "_law_due"] (spSame K)) (mE : mg "_law_same" = some (.ref fE)) (kE : PySem.W.keepIn K (.ref fE) = true) (bE : Binds K fdE ["_law_found", "_law_due"] []) :
    FnG P w K mg base CX0 20 f fd ["_law_script"] (spLaw K) := by
  refine okG F scLaw (fun vs H Q E h => ?_) (fun cdv A outer s H vs Q E hG hr h => ?_)
  · obtain ⟨a, ns, rfl, _⟩ := h
    rfl
  · obtain ⟨a, ns, rfl, hL, hlen, k⟩ := h
    have nd := scLaw.nd
    have hr1 : Room 1 _ := hr.mono (by decide)
    have hr3 : Room 3 _ := hr.mono (by decide)
    have hr4 : Room 4 _ := hr.mono (by decide)
    have hr5 : Room 5 _ := hr.mono (by decide)
    have hr14 : Room 14 _ := hr.mono (by decide)
    refine ⟨_, pss_cons (ps_set (i := 1) nd rfl (by first | exact Or.inl rfl | exact Or.inr rfl) (pe_call GU.ok hr1 (by rfl) GU.at_ GU.kp GU.bd .nil pass0 (pa_cons (pv 0) pa_nil)))
        (pss_cons (ps_for PassesOwn.never rfl (pi_range1 (by rfl) rng (pa_cons pe_int pa_nil)) (pg_name (i := 2) nd rfl (by first | exact Or.inl rfl | exact Or.inr rfl))
        (C8.pss_cut (ps_par (i := 3) (j := 4) (by rfl) nd rfl rfl (by decide) rfl rfl (pa_cons (pe_call GN.ok hr3 (by rfl) GN.at_ GN.kp GN.bd .nil pass0 (pa_cons (pv 1) (pa_cons (pe_int) pa_nil))) (pa_cons (pe_op op_add pe_int (pe_call GD.ok hr1 (by rfl) GD.at_ GD.kp GD.bd .nil pass0 (pa_cons (pv 1) (pa_cons (pe_int) pa_nil)))) pa_nil)) (by rfl))
        (C8.pss_cut (ps_set (i := 5) nd rfl (by first | exact Or.inl rfl | exact Or.inr rfl) (pe_call GP.ok hr5 (by rfl) GP.at_ GP.kp GP.bd .nil pass0 (pa_cons (pv 1) (pa_cons (pe_slice sl_list (pv 3) (po_none) (po_some (pe_call GD.ok hr1 (by rfl) GD.at_ GD.kp GD.bd .nil pass0 (pa_cons (pv 1) (pa_cons (pe_int) pa_nil))))) (pa_cons (pe_slice sl_list (pv 3) (po_some (pe_int)) (po_some (pe_op op_add pe_int (pe_call GD.ok hr1 (by rfl) GD.at_ GD.kp GD.bd .nil pass0 (pa_cons (pv 1) (pa_cons (pe_int) pa_nil)))))) (pa_cons (pv 4) pa_nil))))))
        (C8.pss_cut (ps_set (i := 6) nd rfl (by first | exact Or.inl rfl | exact Or.inr rfl) (pe_join pe_str (pe_call GW.ok hr5 (by rfl) GW.at_ GW.kp GW.bd .nil pass0 (pa_cons (pv 5) pa_nil))))
        (pss_one (ps_if (pt_not (pt_val (pe_callG GE hG hr1 (by rfl) mE kE bE .nil pass0 (pa_cons (pe_lst (pa_cons (pe_call GR.ok hr (by rfl) GR.at_ GR.kp GR.bd .nil pass0 (pa_cons (pv 6) pa_nil)) (pa_cons (pe_call GT.ok hr14 (by rfl) GT.at_ GT.kp GT.bd .nil pass0 (pa_cons (pe_callN0 GR.ok hr (by rfl) GR.at_ GR.kp kR pass0 (pk_cons (pv 6) pk_nil)) pa_nil)) pa_nil))) (pa_cons (pe_lst (pa_cons (pe_call GX.ok hr4 (by rfl) GX.at_ GX.kp GX.bd .nil pass0 (pa_cons (pv 5) pa_nil)) (pa_cons (pv 6) pa_nil))) pa_nil)))))
        (pss_one (ps_ret pe_bl)) pss_nil))))))
        (pss_one (ps_ret (pe_and (pe_callG GE hG hr1 (by rfl) mE kE bE .nil pass0 (pa_cons (pe_call GR.ok hr (by rfl) GR.at_ GR.kp GR.bd .nil pass0 (pa_cons (pe_str) pa_nil)) (pa_cons (pe_tup (pa_cons (pe_tup (pa_cons (pe_str) (pa_cons (pe_str) (pa_cons (pe_str) (pa_cons (pe_tup (pa_cons (pe_int) (pa_cons (pe_int) pa_nil))) (pa_cons (pe_tup (pa_cons (pe_int) (pa_cons (pe_int) pa_nil))) pa_nil)))))) pa_nil)) pa_nil))) (pe_one (pe_cmpR (op_eqD hr.units) (pe_call GR.ok hr (by rfl) GR.at_ GR.kp GR.bd .nil pass0 (pa_cons (pe_str) pa_nil)) (pe_tup pa_nil) (nomark _))))))), ?_⟩
    have sz : ∀ {n : Nat}, n ≤ 10 → n ≤ sizeLine := fun h => Nat.le_trans h (by decide)
    refine ⟨_, rfl, a, ns, rfl, hL, hlen, fun p q H1 hp0 hq0 sm1 S1 => ?_⟩
    refine ⟨5, rfl, by decide, by decide, for_range (lo := 0) (n := 5) (fun i σ G => ∃ (cells : List Int) (o2 o3 o4 o5 o6 : Option V), σ = [some (.ref a), some (.ref p), o2, o3, o4, o5, o6] ∧ Src G p q cells)
      ⟨ns, none, none, none, none, none, rfl, S1⟩ ?_ ?_⟩
    · rintro i σ G hi ⟨cells, o2, o3, o4, o5, o6, rfl, S0⟩
      refine ⟨fun σ G => ∃ (o2 o5 o6 : Option V) (L : Addr) (zs : List Str) (m : Int), σ = [some (.ref a), some (.ref p), o2, some (.ref L), some (.int m), o5, o6] ∧ 1 ≤ m ∧ m ≤ 2 ∧ Src G p q cells ∧ Nams K p G L zs, ?_, ?_⟩
      · refine ⟨_, rfl, p, q, cells, rfl, S0, fun L zs G1 l6 _ hz hL1 hG1 S1 e1 => ⟨_, rfl, p, q, cells, 2, rfl, S1, by decide, by decide, fun r G2 r0 r1 S2 B2 => ⟨_, _, rfl, rfl, _, _, rfl, _, _, _, L, zs, 1 + r, rfl, by omega, by omega, S2, Nams.on ⟨SqL.of ?_, fun z hz' => hz z hz', by omega⟩ (But.exs B2)⟩⟩⟩
        rw [wos_out (fun y => (S0.out hL1).1 (List.mem_singleton.mp y)), hG1]
      rintro σ G ⟨o2, o5, o6, L, zs, m, rfl, m1, m2, S0, hN⟩
      refine ⟨fun σ G => ∃ (o2 o3 o4 o6 : Option V) (x : V) (ds : List PyData) (ws : List Str) (ps : List PyData), σ = [some (.ref a), some (.ref p), o2, o3, o4, some x, o6] ∧ LT 10 (TW 2) ds ws ps ∧ Dp K (wos [p] G) x (.tuple ds) ∧ Src G p q cells, ?_, ?_⟩
      · refine ⟨_, rfl, _, rfl, _, rfl, p, q, cells, 3, rfl, S0, by decide, by decide, fun r G1 r0 r1 S1 B1 => ⟨r, rfl, L, _, rfl, (hN.on (But.exs B1)).at_, fun C hC => ?_⟩⟩
        have e1 := But.exs B1
        have hC1 : Nams K p (upd G1 C (.lst (cutV (tVs zs) none (some r)))) C (cutN zs none (some r)) := ⟨SqL.of (by rw [wos_out (fun y => (S1.out hC).1 (List.mem_singleton.mp y)), upd_same, cut_names]), fun z hz => hN.wd z (cutN_mem hz), by
          obtain ⟨n, rfl⟩ := Int.eq_ofNat_of_zero_le r0
          exact Nat.le_trans cutN_few (by omega)⟩
        have l10 : (cutN zs none (some r)).length ≤ 10 := by
          obtain ⟨n, rfl⟩ := Int.eq_ofNat_of_zero_le r0
          exact Nat.le_trans cutN_few (by omega)
        have e2 : Exs [p] G (upd G1 C (.lst (cutV (tVs zs) none (some r)))) := e1.trans (Exs.of (same_upd hC))
        have S2 := S1.put (o := .lst (cutV (tVs zs) none (some r))) (S1.out hC)
        generalize upd G1 C (.lst (cutV (tVs zs) none (some r))) = G2 at hC1 e2 S2
        refine ⟨_, rfl, 2, rfl, _, rfl, p, q, cells, 4, rfl, S2, by decide, by decide, fun r2 G3 a2 c2 S3 B3 => ⟨_, _, rfl, rfl, _, rfl, L, _, rfl, (hN.on (e2.trans (But.exs B3))).at_, fun C2 hC2 => ?_⟩⟩
        have e3 := But.exs B3
        have hC2' : Nams K p (upd G3 C2 (.lst (cutV (tVs zs) (some 2) (some (2 + r2))))) C2 (cutN zs (some 2) (some (2 + r2))) := ⟨SqL.of (by rw [wos_out (fun y => (S3.out hC2).1 (List.mem_singleton.mp y)), upd_same, cut_names]), fun z hz => hN.wd z (cutN_mem hz), by
          have := hN.few
          unfold cutN
          rw [List.length_take, List.length_drop]
          omega⟩
        have e4 : Exs [p] G3 (upd G3 C2 (.lst (cutV (tVs zs) (some 2) (some (2 + r2))))) := Exs.of (same_upd hC2)
        refine ⟨_, rfl, p, q, C, C2, cells, _, _, m, rfl, S3.put (S3.out hC2), hC1.on (e3.trans e4), hC2', l10, m1, m2, fun x ds G5 st l hx S5 e5 => ?_⟩
        obtain ⟨ws, ps, hw⟩ := lw_of st (m := 10) (by omega)
        exact ⟨_, _, _, _, x, ds, ws, ps, rfl, hw, hx, S5⟩
      rintro σ G ⟨o2, o3, o4, o6, x, ds, ws, ps, rfl, hw, hx, S0⟩
      obtain ⟨lw1, lw2⟩ := lt_lw (R := TW 2) (R' := SW 2) (fun _ _ _ z => tw_sw 2 z) hw
      have at_ : ∀ {G' : Hp}, Same G G' → Dp K G' x (.tuple ds) := fun e => Dp.same e _ _ (Dp.same wos_sub _ _ hx)
      refine ⟨fun σ G' => σ = [some (.ref a), some (.ref p), o2, o3, o4, some x, some (.str (joined ws))] ∧ Same G G', ?_, ?_⟩
      · refine ⟨⟨_, rfl⟩, _, rfl, x, ds, ws, rfl, at_ (Same.refl G), lw1, fun D G4 hD s4 hG4 => ⟨_, D, ws, rfl, rfl, .inl (SqL.of hG4), ?_, rfl, s4⟩⟩
        obtain ⟨l, aw⟩ := lw2_size lw1
        have := sum_len aw
        show (ws.map (·.length)).sum + ws.length * 1 ≤ 16777216
        omega
      rintro σ G0 ⟨rfl, s0⟩
      refine ⟨_, rfl, ds, ws, ps, rfl, hw, fun x1 G1 hx1 s1 => ?_⟩
      refine ⟨_, rfl, rfl, rfl, ds, ws, ps, rfl, hw, fun x2 G2 hx2 s2 => ⟨x2, ps, ws, rfl, hx2, lw2, fun G3 s3 => ⟨sz (by simp), fun L1 hL1 => ?_⟩⟩⟩
      have s4 := same_upd (o := .lst [x1, .str (joined ws)]) hL1
      have s04 := (((s0.trans s1).trans s2).trans s3).trans s4
      refine ⟨_, rfl, x, ds, ws, ps, rfl, at_ s04, hw, fun y G5 hy s5 => ⟨_, rfl, sz (by simp), fun L2 hL2 => ?_⟩⟩
      have s6 := same_upd (o := .lst [y, .str (joined ws)]) hL2
      refine ⟨.ref L1, .ref L2, .list [.tuple ps, .str (joined ws)], .list [.tuple ps, .str (joined ws)], rfl, .lst (SqL.of ((s5.trans s6) _ _ upd_same)) (.cons (Dp.same ((((s2.trans s3).trans s4).trans s5).trans s6) _ _ hx1) (.cons (.str _) .nil)), .lst (SqL.of upd_same) (.cons (Dp.same s6 _ _ hy) (.cons (.str _) .nil)), both_sm hw, both_sm hw, _, rfl, ?_⟩
      rw [decide_eq_true rfl]
      exact iteF ⟨cells, _, _, _, _, _, rfl, S0.same ((s04.trans s5).trans s6)⟩
    · rintro σ G ⟨cells, o2, o3, o4, o5, o6, rfl, S0⟩
      obtain ⟨ws, hw, jw⟩ := lit_words
      refine ⟨[litD], ws, [litP], by rw [jw]; rfl, hw, fun x1 G1 hx1 s1 => ?_⟩
      have S1 := S0.same s1
      refine ⟨sz (by simp), fun T1 h1 => ?_⟩
      obtain ⟨t1, S2, e1⟩ := leaf_at (K := K) S1 (.cons (.int 0) (.cons (.int 1) .nil)) h1
      refine ⟨sz (by simp), fun T2 h2 => ?_⟩
      obtain ⟨t2, S3, e2⟩ := leaf_at (K := K) S2 (.cons (.int 7) (.cons (.int 3) .nil)) h2
      refine ⟨sz (by simp), fun T3 h3 => ?_⟩
      obtain ⟨t3, S4, e3⟩ := leaf_at S3 (.cons (.str "place") (.cons (.str "foot") (.cons (.str "cart") (.cons (Dp.same e2 _ _ t1) (.cons t2 .nil))))) h3
      refine ⟨sz (by simp), fun T4 h4 => ?_⟩
      obtain ⟨t4, S5, e4⟩ := leaf_at S4 (.cons t3 .nil) h4
      have sm : Sm (.tuple [litP]) := ⟨by decide +kernel, by decide +kernel, by decide +kernel⟩
      refine ⟨x1, .ref T4, .tuple [litP], .tuple [litP], rfl, Dp.same ((((same_upd h1).trans (same_upd h2)).trans (same_upd h3)).trans (same_upd h4)) _ _ hx1, Dp.same wos_sub _ _ t4, sm, sm, _, rfl, ?_⟩
      rw [decide_eq_true rfl]
      refine iteT ⟨[], [], [], by rw [joined_nil]; rfl, nil_lt, fun x6 G6 hx6 s6 => ⟨sz (by simp), fun T7 h7 => ?_⟩⟩
      refine ⟨.tuple [], .tuple [], Dp.same (same_upd h7) _ _ hx6, .tup (SqT.of upd_same) .nil, by decide +kernel, by decide +kernel, ?_⟩
      rw [show PyData.eqv (.tuple []) (.tuple []) = true by decide +kernel]
      exact k _
end
end Lw

set_option maxRecDepth 100000
set_option maxHeartbeats 0
namespace Lw
open PySem PySem.Spec PyProof.Rows L2 VG
abbrev R : PySem.W.OpenRow := PySem.W.OpenLaw.row PySem.Challenge.rw_missingmiles_k23_whole_texts_of_steps_re
def glb (x : Str) (st : Stmt) (dfl : List He.Dv) : He.DefD := ⟨(x, none), x, x, defArgs st, defBody st, defScope st, dfl, []⟩
def mth (C m : Str) (st : Stmt) : He.DefD := ⟨(C, some m), m, C ++ "." ++ m, defArgs st, defBody st, defScope st, [], []⟩
/-- a number under a name of the top -/
def gintB (K : PySem.W.Frag) (x : Str) (n : Int) : Bool := match PySem.W.nsIn K mainGlobals x with
  | some (some (.int m _)) => decide (m = n)
  | _ => false
theorem gintB_ok {K : PySem.W.Frag} {h : Heap} {mg : Str → Option Value} {x : Str} {n : Int} (X : K.In h) (G : h.Ns mainGlobals mg) (e : gintB K x n = true) : ∃ u, mg x = some u ∧ RelV (.int n) u := by
  unfold gintB at e
  split at e
  · rename_i m t q
    have z := of_decide_eq_true e
    subst z
    exact ⟨_, PySem.W.mg_of X G q, ⟨t, rfl⟩⟩
  · cases e
/-- a word's kinds in the table of shapes -/
def shpT (K : PySem.W.Frag) (T : Addr) (ks : List Str) : Bool := match K.lookup T with
  | some ⟨.type c, _, .seq its _, _⟩ => decide (c = "tuple") && (decide (its.size ≤ sizeLine) && He.relAll (ks.map V.str) its.toList)
  | _ => false
def shpB (K : PySem.W.Frag) (s : Str × List Str) : Bool := match PySem.W.nsIn K (He.ga K "SHAPES") s.1 with
  | some (some (.ref T)) => shpT K T s.2
  | _ => false
theorem shpT_ok {K : PySem.W.Frag} {T : Addr} {ks : List Str} (h : shpT K T ks = true) (H : Hp) : SqT K H T (ks.map V.str) := by
  unfold shpT at h
  split at h
  · rename_i c _ its n _ q
    obtain ⟨h1, h2⟩ := He.ba h
    obtain ⟨h3, h4⟩ := He.ba h2
    exact .inr ⟨_, its, n, q, congrArg Value.type (of_decide_eq_true h1), rfl, of_decide_eq_true h3, He.relAll_ok h4⟩
  · cases h
theorem shpB_ok {K : PySem.W.Frag} {s : Str × List Str} (h : shpB K s = true) : ∃ T : Addr, PySem.W.nsIn K (He.ga K "SHAPES") s.1 = some (some (.ref T)) ∧ ∀ H, SqT K H T (s.2.map V.str) := by
  unfold shpB at h
  split at h
  · rename_i T q
    exact ⟨T, q, fun H => shpT_ok h H⟩
  · cases h
def tabs : List He.Tab := [(fun K => He.ga K "SHAPES", SHL.map Prod.fst)]
def fns : List He.DefD := [glb "law" sLaw [],
  glb "_law_source" sSource [],
  glb "_law_draw" sDraw [],
  glb "_law_of" sOf [],
  glb "_law_same" sSame [],
  glb "_law_mixed" s__law_mixed [],
  glb "_law_low" s__law_low [],
  glb "_law_names" s__law_names [],
  glb "_law_length" s__law_length [],
  glb "_law_bare" s__law_bare [],
  glb "_law_pair" s__law_pair [],
  glb "_law_layer" s__law_layer [],
  glb "_law_some_step" s__law_some_step [],
  glb "_law_ends" s__law_ends [],
  glb "_law_still" s__law_still [],
  glb "_law_test" s__law_test [],
  glb "_law_steps" s__law_steps [],
  glb "_law_text" s__law_text [],
  glb "_law_words" s__law_words [],
  glb "_law_deep_steps" s__law_deep_steps [],
  glb "_law_in_pairs" s__law_in_pairs [],
  glb "_is_whole" s__is_whole [],
  glb "is_ratio" s_is_ratio [],
  glb "can_be_ratio" s_can_be_ratio [],
  glb "is_length" s_is_length [],
  glb "is_scale" s_is_scale [],
  glb "ratio_of" s_ratio_of [],
  glb "_figures" s__figures [],
  glb "ratio_text" s_ratio_text [],
  glb "_are_figures" s__are_figures [],
  glb "read_ratio" s_read_ratio [],
  glb "ratio_or_none" s_ratio_or_none [],
  glb "_are_letters" s__are_letters [],
  glb "is_name" s_is_name [],
  glb "is_layer" s_is_layer [.int 2],
  glb "is_item" s_is_item [.int 2],
  glb "text_of" s_text_of [],
  glb "_words_of" s__words_of [],
  glb "_step_words" s__step_words [],
  glb "_item_words" s__item_words [],
  glb "_bracketed" s__bracketed [],
  glb "read_steps" s_read_steps [],
  mth "Reader" "__init__" rInit,
  mth "Reader" "all_steps" rAll,
  mth "Reader" "_word" rWord,
  mth "Reader" "_pass" rPass,
  mth "Reader" "_step_list" rList,
  mth "Reader" "_step" rStep,
  mth "Reader" "_if" rIf,
  mth "Reader" "_repeat" rRep,
  mth "Reader" "_part" rPart,
  mth "Reader" "_item" rItem]
def fas : List He.Fa := [.glo "law", .glo "_law_source", .glo "_law_draw", .glo "_law_of", .glo "_law_same", .glo "_law_mixed", .glo "_law_low", .glo "_law_names", .glo "_law_length", .glo "_law_bare", .glo "_law_pair", .glo "_law_layer", .glo "_law_some_step", .glo "_law_ends", .glo "_law_still", .glo "_law_test", .glo "_law_steps", .glo "_law_text", .glo "_law_words", .glo "_law_deep_steps", .glo "_law_in_pairs", .glo "_is_whole", .glo "is_ratio", .glo "can_be_ratio", .glo "is_length", .glo "is_scale", .glo "ratio_of", .glo "_figures", .glo "ratio_text", .glo "_are_figures", .glo "read_ratio", .glo "ratio_or_none", .glo "_are_letters", .glo "is_name", .glo "is_layer", .glo "is_item", .glo "text_of", .glo "_words_of", .glo "_step_words", .glo "_item_words", .glo "_bracketed", .glo "read_steps", .mkr "Reader", .meth "Reader" "all_steps", .meth "Reader" "_word", .meth "Reader" "_pass", .meth "Reader" "_step_list", .meth "Reader" "_step", .meth "Reader" "_if", .meth "Reader" "_repeat", .meth "Reader" "_part", .meth "Reader" "_item", .glo "Reader", .cls "Reader", .noat "Reader" "_words", .noat "Reader" "_at", .noat "Reader" "_opened", .glo "SHAPES", .glo "ASKED", .glo "LAYERS", .glo "InvalidRatio", .free "int", .free "len", .free "list", .free "repr", .free "isinstance", .free "bool", .free "range", .free "tuple", .free "abs", .free "str", .free "sorted"]
def more (K : PySem.W.Frag) : Bool := decide (PySem.W.nsIn K mainGlobals "gcd" = some (some (.builtin "math.gcd"))) && (gintB K "MOST_OPEN" 12 && (gintB K "MOST_FIGURES" 60 && (He.tupB K "LAYERS" [.str "foot", .str "cart"] && (He.tupB K "ASKED" [.str "layer", .str "name", .str "name", .str "length"] && SHL.all (shpB K)))))
def tfs : List He.Defn := []
abbrev hk : PySem.W.Hook := He.hookX 4 fas fns tabs tfs more
def ob (s : PySem.W.SharedT) : He.AlX := He.obsX 4 fas fns tabs tfs more (HandSHeadRun.getT s)
theorem ob_eq (s : PySem.W.SharedT) : ob s = hk.obs s.abs := He.obsX_eq (HandSHeadRun.getT_eq s)
def loose : List Str := (["gcd", "_law_source", "_law_draw", "_law_of", "_law_same", "_law_mixed", "_law_low", "_law_names", "_law_length", "_law_bare", "_law_pair", "_law_layer", "_law_some_step", "_law_ends", "_law_still", "_law_test", "_law_steps", "_law_text", "_law_words", "_law_deep_steps", "_law_in_pairs", "_is_whole", "is_ratio", "can_be_ratio", "is_length", "is_scale", "ratio_of", "_figures", "ratio_text", "_are_figures"] : List Str) ++ (["read_ratio", "ratio_or_none", "_are_letters", "is_name", "is_layer", "is_item", "text_of", "_words_of", "_step_words", "_item_words", "_bracketed", "read_steps", "Reader", "SHAPES", "ASKED", "LAYERS", "InvalidRatio", "InvalidText", "copied", "MilesError", "MOST_OPEN", "MOST_FIGURES", "MOST_TIMES", "is_number"] : List Str)
theorem runF (w : World) : HandSHeadRun.RunEqI R (PySem.W.view R.prog [0, 61]) hk ob 6000 loose (w.withFollow "special-get-raises" false) := by
  unfold HandSHeadRun.RunEqI
  kernel_rfl
theorem runT (w : World) : HandSHeadRun.RunEqI R (PySem.W.view R.prog [0, 61]) hk ob 6000 loose (w.withFollow "special-get-raises" true) := by
  unfold HandSHeadRun.RunEqI
  kernel_rfl
theorem run (w : World) : HandSHeadRun.RunEqI R (PySem.W.view R.prog [0, 61]) hk ob 6000 loose w := PySem.W.byRow2 "special-get-raises" (P := fun w => HandSHeadRun.RunEqI R (PySem.W.view R.prog [0, 61]) hk ob 6000 loose w) runF runT w
end Lw

set_option maxRecDepth 100000
set_option maxHeartbeats 0
namespace Lw
open PySem PySem.Spec PyProof.Rows L2 VG
theorem vals_rev : ∀ {xs : List V} {us : List Value}, Vals xs us → Vals xs.reverse us.reverse
  | _, _, .nil => .nil
  | _, _, .cons r t => by
    rw [List.reverse_cons, List.reverse_cons]
    exact (vals_rev t).append (.cons r .nil)
abbrev L : PySem.W.OpenLaw := PySem.Challenge.rw_missingmiles_k23_whole_texts_of_steps_re
theorem facts {w : World} {K : PySem.W.Frag} {h : Heap} {mg : Str → Option Value} {f : Addr} (X : K.In h) (G : h.Ns mainGlobals mg) (hfa : mg ("law" : Str) = some (.ref f)) (c : He.SaysX fas fns tabs tfs more w h K) : LawG L w K CX0 20 63 "_law_script" mg f h := by
  have d := c.t.d
  have e := hfa.symm.trans (He.glo_ok X G (d.fact 0 (f := .glo "law") rfl))
  cases e
  have gl : ∀ {x : Str} (i : Nat), fas[i]? = some (.glo x) → mg x = some (.ref (He.ga K x)) := fun i hi => He.glo_ok X G (d.fact i hi)
  have fr : ∀ {x : Str} (i : Nat), fas[i]? = some (.free x) → mg x = none := fun i hi => He.free_ok X G (d.fact i hi)
  obtain ⟨fd0, F0⟩ := d.def_ 0 (d := glb "law" sLaw []) rfl
  obtain ⟨fd1, F1⟩ := d.def_ 1 (d := glb "_law_source" sSource []) rfl
  obtain ⟨fd2, F2⟩ := d.def_ 2 (d := glb "_law_draw" sDraw []) rfl
  obtain ⟨fd3, F3⟩ := d.def_ 3 (d := glb "_law_of" sOf []) rfl
  obtain ⟨fd4, F4⟩ := d.def_ 4 (d := glb "_law_same" sSame []) rfl
  obtain ⟨fd5, F5⟩ := d.def_ 5 (d := glb "_law_mixed" s__law_mixed []) rfl
  obtain ⟨fd6, F6⟩ := d.def_ 6 (d := glb "_law_low" s__law_low []) rfl
  obtain ⟨fd7, F7⟩ := d.def_ 7 (d := glb "_law_names" s__law_names []) rfl
  obtain ⟨fd8, F8⟩ := d.def_ 8 (d := glb "_law_length" s__law_length []) rfl
  obtain ⟨fd9, F9⟩ := d.def_ 9 (d := glb "_law_bare" s__law_bare []) rfl
  obtain ⟨fd10, F10⟩ := d.def_ 10 (d := glb "_law_pair" s__law_pair []) rfl
  obtain ⟨fd11, F11⟩ := d.def_ 11 (d := glb "_law_layer" s__law_layer []) rfl
  obtain ⟨fd12, F12⟩ := d.def_ 12 (d := glb "_law_some_step" s__law_some_step []) rfl
  obtain ⟨fd13, F13⟩ := d.def_ 13 (d := glb "_law_ends" s__law_ends []) rfl
  obtain ⟨fd14, F14⟩ := d.def_ 14 (d := glb "_law_still" s__law_still []) rfl
  obtain ⟨fd15, F15⟩ := d.def_ 15 (d := glb "_law_test" s__law_test []) rfl
  obtain ⟨fd16, F16⟩ := d.def_ 16 (d := glb "_law_steps" s__law_steps []) rfl
  obtain ⟨fd17, F17⟩ := d.def_ 17 (d := glb "_law_text" s__law_text []) rfl
  obtain ⟨fd18, F18⟩ := d.def_ 18 (d := glb "_law_words" s__law_words []) rfl
  obtain ⟨fd19, F19⟩ := d.def_ 19 (d := glb "_law_deep_steps" s__law_deep_steps []) rfl
  obtain ⟨fd20, F20⟩ := d.def_ 20 (d := glb "_law_in_pairs" s__law_in_pairs []) rfl
  obtain ⟨fd21, F21⟩ := d.def_ 21 (d := glb "_is_whole" s__is_whole []) rfl
  obtain ⟨fd22, F22⟩ := d.def_ 22 (d := glb "is_ratio" s_is_ratio []) rfl
  obtain ⟨fd23, F23⟩ := d.def_ 23 (d := glb "can_be_ratio" s_can_be_ratio []) rfl
  obtain ⟨fd24, F24⟩ := d.def_ 24 (d := glb "is_length" s_is_length []) rfl
  obtain ⟨fd25, F25⟩ := d.def_ 25 (d := glb "is_scale" s_is_scale []) rfl
  obtain ⟨fd26, F26⟩ := d.def_ 26 (d := glb "ratio_of" s_ratio_of []) rfl
  obtain ⟨fd27, F27⟩ := d.def_ 27 (d := glb "_figures" s__figures []) rfl
  obtain ⟨fd28, F28⟩ := d.def_ 28 (d := glb "ratio_text" s_ratio_text []) rfl
  obtain ⟨fd29, F29⟩ := d.def_ 29 (d := glb "_are_figures" s__are_figures []) rfl
  obtain ⟨fd30, F30⟩ := d.def_ 30 (d := glb "read_ratio" s_read_ratio []) rfl
  obtain ⟨fd31, F31⟩ := d.def_ 31 (d := glb "ratio_or_none" s_ratio_or_none []) rfl
  obtain ⟨fd32, F32⟩ := d.def_ 32 (d := glb "_are_letters" s__are_letters []) rfl
  obtain ⟨fd33, F33⟩ := d.def_ 33 (d := glb "is_name" s_is_name []) rfl
  obtain ⟨fd34, F34⟩ := d.def_ 34 (d := glb "is_layer" s_is_layer [.int 2]) rfl
  obtain ⟨fd35, F35⟩ := d.def_ 35 (d := glb "is_item" s_is_item [.int 2]) rfl
  obtain ⟨fd36, F36⟩ := d.def_ 36 (d := glb "text_of" s_text_of []) rfl
  obtain ⟨fd37, F37⟩ := d.def_ 37 (d := glb "_words_of" s__words_of []) rfl
  obtain ⟨fd38, F38⟩ := d.def_ 38 (d := glb "_step_words" s__step_words []) rfl
  obtain ⟨fd39, F39⟩ := d.def_ 39 (d := glb "_item_words" s__item_words []) rfl
  obtain ⟨fd40, F40⟩ := d.def_ 40 (d := glb "_bracketed" s__bracketed []) rfl
  obtain ⟨fd41, F41⟩ := d.def_ 41 (d := glb "read_steps" s_read_steps []) rfl
  obtain ⟨fd42, F42⟩ := d.def_ 42 (d := mth "Reader" "__init__" rInit) rfl
  obtain ⟨fd43, F43⟩ := d.def_ 43 (d := mth "Reader" "all_steps" rAll) rfl
  obtain ⟨fd44, F44⟩ := d.def_ 44 (d := mth "Reader" "_word" rWord) rfl
  obtain ⟨fd45, F45⟩ := d.def_ 45 (d := mth "Reader" "_pass" rPass) rfl
  obtain ⟨fd46, F46⟩ := d.def_ 46 (d := mth "Reader" "_step_list" rList) rfl
  obtain ⟨fd47, F47⟩ := d.def_ 47 (d := mth "Reader" "_step" rStep) rfl
  obtain ⟨fd48, F48⟩ := d.def_ 48 (d := mth "Reader" "_if" rIf) rfl
  obtain ⟨fd49, F49⟩ := d.def_ 49 (d := mth "Reader" "_repeat" rRep) rfl
  obtain ⟨fd50, F50⟩ := d.def_ 50 (d := mth "Reader" "_part" rPart) rfl
  obtain ⟨fd51, F51⟩ := d.def_ 51 (d := mth "Reader" "_item" rItem) rfl
  have b0 := FunD.bindsA (ps := ["_law_script"]) F0 fun _ _ _ _ _ _ us hl => match us, hl with | [_], _ => rfl
  have b1 := FunD.bindsN (ps := ["_law_script"]) F1 fun _ _ _ _ _ _ us hl => match us, hl with | [_], _ => rfl
  have b2 := FunD.bindsN (ps := ["_law_src", "_law_many"]) F2 fun _ _ _ _ _ _ us hl => match us, hl with | [_, _], _ => rfl
  have b3 := FunD.bindsN (ps := ["_law_src", "_law_some"]) F3 fun _ _ _ _ _ _ us hl => match us, hl with | [_, _], _ => rfl
  have b4 := FunD.bindsN (ps := ["_law_found", "_law_due"]) F4 fun _ _ _ _ _ _ us hl => match us, hl with | [_, _], _ => rfl
  have b5 := FunD.bindsN (ps := ["_law_src", "_law_things"]) F5 fun _ _ _ _ _ _ us hl => match us, hl with | [_, _], _ => rfl
  have b6 := FunD.bindsN (ps := ["_law_top", "_law_bottom"]) F6 fun _ _ _ _ _ _ us hl => match us, hl with | [_, _], _ => rfl
  have b7 := FunD.bindsN (ps := ["_law_src", "_law_many"]) F7 fun _ _ _ _ _ _ us hl => match us, hl with | [_, _], _ => rfl
  have b8 := FunD.bindsN (ps := ["_law_src"]) F8 fun _ _ _ _ _ _ us hl => match us, hl with | [_], _ => rfl
  have b9 := FunD.bindsN (ps := ["_law_src", "_law_one"]) F9 fun _ _ _ _ _ _ us hl => match us, hl with | [_, _], _ => rfl
  have b10 := FunD.bindsN (ps := ["_law_value"]) F10 fun _ _ _ _ _ _ us hl => match us, hl with | [_], _ => rfl
  have b11 := FunD.bindsN (ps := ["_law_src", "_law_layers"]) F11 fun _ _ _ _ _ _ us hl => match us, hl with | [_, _], _ => rfl
  have b12 := FunD.bindsN (ps := ["_law_src", "_law_names_here", "_law_fresh", "_law_layers"]) F12 fun _ _ _ _ _ _ us hl => match us, hl with | [_, _, _, _], _ => rfl
  have b13 := FunD.bindsN (ps := ["_law_names_here", "_law_step"]) F13 fun _ _ _ _ _ _ us hl => match us, hl with | [_, _], _ => rfl
  have b14 := FunD.bindsN (ps := ["_law_src", "_law_names_here", "_law_layers", "_law_many"]) F14 fun _ _ _ _ _ _ us hl => match us, hl with | [_, _, _, _], _ => rfl
  have b15 := FunD.bindsN (ps := ["_law_src", "_law_names_here", "_law_layers"]) F15 fun _ _ _ _ _ _ us hl => match us, hl with | [_, _, _], _ => rfl
  have b16 := FunD.bindsN (ps := ["_law_src", "_law_names_here", "_law_fresh", "_law_layers", "_law_tests"]) F16 fun _ _ _ _ _ _ us hl => match us, hl with | [_, _, _, _, _], _ => rfl
  have b17 := FunD.bindsN (ps := ["_law_value"]) F17 fun _ _ _ _ _ _ us hl => match us, hl with | [_], _ => rfl
  have b18 := FunD.bindsN (ps := ["_law_steps_here"]) F18 fun _ _ _ _ _ _ us hl => match us, hl with | [_], _ => rfl
  have b19 := FunD.bindsN (ps := ["_law_src", "_law_names_here", "_law_fresh", "_law_layers"]) F19 fun _ _ _ _ _ _ us hl => match us, hl with | [_, _, _, _], _ => rfl
  have b20 := FunD.bindsN (ps := ["_law_steps_here"]) F20 fun _ _ _ _ _ _ us hl => match us, hl with | [_], _ => rfl
  have b21 := FunD.bindsN (ps := ["value"]) F21 fun _ _ _ _ _ _ us hl => match us, hl with | [_], _ => rfl
  have b22 := FunD.bindsN (ps := ["value"]) F22 fun _ _ _ _ _ _ us hl => match us, hl with | [_], _ => rfl
  have b23 := FunD.bindsN (ps := ["value"]) F23 fun _ _ _ _ _ _ us hl => match us, hl with | [_], _ => rfl
  have b24 := FunD.bindsN (ps := ["value"]) F24 fun _ _ _ _ _ _ us hl => match us, hl with | [_], _ => rfl
  have b25 := FunD.bindsN (ps := ["value"]) F25 fun _ _ _ _ _ _ us hl => match us, hl with | [_], _ => rfl
  have b26 := FunD.bindsN (ps := ["value"]) F26 fun _ _ _ _ _ _ us hl => match us, hl with | [_], _ => rfl
  have b27 := FunD.bindsN (ps := ["number"]) F27 fun _ _ _ _ _ _ us hl => match us, hl with | [_], _ => rfl
  have b28 := FunD.bindsN (ps := ["value"]) F28 fun _ _ _ _ _ _ us hl => match us, hl with | [_], _ => rfl
  have b29 := FunD.bindsN (ps := ["text"]) F29 fun _ _ _ _ _ _ us hl => match us, hl with | [_], _ => rfl
  have b30 := FunD.bindsN (ps := ["text"]) F30 fun _ _ _ _ _ _ us hl => match us, hl with | [_], _ => rfl
  have b31 := FunD.bindsN (ps := ["text"]) F31 fun _ _ _ _ _ _ us hl => match us, hl with | [_], _ => rfl
  have b32 := FunD.bindsN (ps := ["value", "most"]) F32 fun _ _ _ _ _ _ us hl => match us, hl with | [_, _], _ => rfl
  have b33 := FunD.bindsN (ps := ["value"]) F33 fun _ _ _ _ _ _ us hl => match us, hl with | [_], _ => rfl
  have b36 := FunD.bindsN (ps := ["steps"]) F36 fun _ _ _ _ _ _ us hl => match us, hl with | [_], _ => rfl
  have b37 := FunD.bindsN (ps := ["steps"]) F37 fun _ _ _ _ _ _ us hl => match us, hl with | [_], _ => rfl
  have b38 := FunD.bindsN (ps := ["step"]) F38 fun _ _ _ _ _ _ us hl => match us, hl with | [_], _ => rfl
  have b39 := FunD.bindsN (ps := ["items"]) F39 fun _ _ _ _ _ _ us hl => match us, hl with | [_], _ => rfl
  have b40 := FunD.bindsN (ps := ["steps"]) F40 fun _ _ _ _ _ _ us hl => match us, hl with | [_], _ => rfl
  have b41 := FunD.bindsN (ps := ["text"]) F41 fun _ _ _ _ _ _ us hl => match us, hl with | [_], _ => rfl
  have b42 := FunD.bindsN (ps := ["self", "words"]) F42 fun _ _ _ _ _ _ us hl => match us, hl with | [_, _], _ => rfl
  have b43 := FunD.bindsN (ps := ["self"]) F43 fun _ _ _ _ _ _ us hl => match us, hl with | [_], _ => rfl
  have b44 := FunD.bindsN (ps := ["self"]) F44 fun _ _ _ _ _ _ us hl => match us, hl with | [_], _ => rfl
  have b45 := FunD.bindsN (ps := ["self", "word"]) F45 fun _ _ _ _ _ _ us hl => match us, hl with | [_, _], _ => rfl
  have b46 := FunD.bindsN (ps := ["self"]) F46 fun _ _ _ _ _ _ us hl => match us, hl with | [_], _ => rfl
  have b47 := FunD.bindsN (ps := ["self"]) F47 fun _ _ _ _ _ _ us hl => match us, hl with | [_], _ => rfl
  have b48 := FunD.bindsN (ps := ["self"]) F48 fun _ _ _ _ _ _ us hl => match us, hl with | [_], _ => rfl
  have b49 := FunD.bindsN (ps := ["self"]) F49 fun _ _ _ _ _ _ us hl => match us, hl with | [_], _ => rfl
  have b50 := FunD.bindsN (ps := ["self"]) F50 fun _ _ _ _ _ _ us hl => match us, hl with | [_], _ => rfl
  have b51 := FunD.bindsN (ps := ["self", "kind"]) F51 fun _ _ _ _ _ _ us hl => match us, hl with | [_, _], _ => rfl
  obtain ⟨m1, m⟩ := He.ba c.more
  obtain ⟨m2, m⟩ := He.ba m
  obtain ⟨m3, m⟩ := He.ba m
  obtain ⟨m4, m⟩ := He.ba m
  obtain ⟨m5, m6⟩ := He.ba m
  have gg : mg "gcd" = some (.builtin "math.gcd") := PySem.W.mg_of X G (of_decide_eq_true m1)
  obtain ⟨uM, gM, rM⟩ := gintB_ok X G m2
  have tN : Nm mg := ⟨(fr 61 rfl), (fr 62 rfl), (fr 63 rfl), (fr 64 rfl)⟩
  have tW : NmW mg := ⟨(fr 65 rfl), (fr 61 rfl), (fr 66 rfl)⟩
  have tR : NmR mg := ⟨tW, (fr 68 rfl), (fr 62 rfl), gg⟩
  have tS : NmN mg := ⟨(fr 65 rfl), (fr 70 rfl), (fr 62 rfl)⟩
  have tF : NmF mg := ⟨(fr 62 rfl), gintB_ok X G m3⟩
  have tL : NmL K mg (He.ga K "LAYERS") := ⟨(gl 59 rfl), fun H => He.tupB_ok m4 H⟩
  have hA : ∀ H, SqT K H (He.ga K "ASKED") (askK.map V.str) := fun H => He.tupB_ok m5 H
  have tX : TxR K (He.ga K "Reader") := ⟨He.cls_ok (d.fact 53 rfl), He.noat_ok (d.fact 54 rfl), He.noat_ok (d.fact 55 rfl), He.noat_ok (d.fact 56 rfl)⟩
  have tSh : ShT K w mg (He.ga K "SHAPES") := ⟨(gl 57 rfl), c.t.tab 0 rfl, fun s hs => shpB_ok (List.all_eq_true.mp m6 s hs)⟩
  obtain ⟨dsL, vL, bL⟩ := FunD.binds1 (ps := ["value", "layers"]) F34 2 1 (by intro z; cases z) rfl fun T _ _ _ _ _ _ us its h1 h2 => match us, its, h1, h2 with | [_, _], [_], _, _ => ⟨_, rfl, rfl⟩
  have eL : dsL = [] := by
    cases (show Vals [] dsL from vL)
    rfl
  subst eL
  obtain ⟨dsI, vI, bI⟩ := FunD.binds1 (ps := ["kind", "value", "layers"]) F35 2 0 (by intro z; cases z) rfl fun T _ _ _ _ _ _ us its h1 h2 => match us, its, h1, h2 with | [_, _], [_], _, _ => ⟨_, rfl, rfl⟩
  refine ⟨fd0, [], spLaw K, (fun p hp => by cases hp), (fun p hp => by cases hp), (fun p hp => by cases hp), fun s v => b0 s [v] rfl, fun H a ns hl _ _ hS => ⟨a, ns, rfl, hS, hl, fun _ => rfl⟩, fun base _ _ _ => ?_⟩
  have GWh : Fun K "_is_whole" "_is_whole" s__is_whole _ _ := fun_of F21
  have FIr : Fun K "is_ratio" "is_ratio" s_is_ratio _ _ := fun_of F22
  have GR := ok_ratioOf (P := L.prog) (w := w) (K := K) (mg := mg) (base := base) (fun_of F26) GWh FIr tR (gl 21 rfl) b21 (gl 22 rfl) b22
  have GFi := ok_fig (P := L.prog) (w := w) (K := K) (mg := mg) (base := base) (fun_of F27) (fr 70 rfl)
  have GTx := ok_text (fun_of F28) (fr 69 rfl) GR (gl 26 rfl) F26.kp b26 GFi (gl 27 rfl) F27.kp b27
  have GI := ok_items (fun_of F39) (fr 65 rfl) (fr 70 rfl) GTx (gl 28 rfl) F28.kp b28
  have pw : PW K mg (He.ga K "_item_words") (He.ga K "_bracketed") (He.ga K "_step_words") (He.ga K "_words_of") _ _ _ _ := ⟨(fun_of F38), (fun_of F40), (fun_of F37), (gl 39 rfl), F39.kp, b39, (gl 40 rfl), F40.kp, b40, (gl 38 rfl), F38.kp, b38, (gl 37 rfl), F37.kp, b37⟩
  have GWs := ok_ws2 pw GI
  have GTo := ok_textOf (fun_of F36) GWs (gl 37 rfl) F37.kp b37
  have GD := ok_draw (P := L.prog) (w := w) (K := K) (mg := mg) (base := base) (fun_of F2) tN
  have GO := ok_of (P := L.prog) (w := w) (K := K) (mg := mg) (base := base) (fun_of F3) tN (fun_of F2) (gl 2 rfl) b2
  have GLw := ok_low (P := L.prog) (w := w) (K := K) (mg := mg) (base := base) (fun_of F6) (fr 61 rfl) (fr 69 rfl)
  have GM := ok_mixed (fun_of F5) tN GD (gl 2 rfl) F2.kp b2
  have GN := ok_lnames (fun_of F7) tN (fr 67 rfl) GD (gl 2 rfl) F2.kp b2 GO (gl 3 rfl) F3.kp b3 GM (gl 5 rfl) F5.kp b5
  have GLe := ok_length (fun_of F8) GD (gl 2 rfl) F2.kp b2 GLw (gl 6 rfl) F6.kp b6
  have GB := ok_bare (fun_of F9) GD (gl 2 rfl) F2.kp b2
  have GY := ok_lay (fun_of F11) GD (gl 2 rfl) F2.kp b2
  have dh : DH L.prog w K mg base _ _ _ _ _ _ _ _ _ _ _ _ := ⟨GD, (gl 2 rfl), F2.kp, b2, GY, (gl 11 rfl), F11.kp, b11, GO, (gl 3 rfl), F3.kp, b3, GLe, (gl 8 rfl), F8.kp, b8, GB, (gl 9 rfl), F9.kp, b9, GLw, (gl 6 rfl), F6.kp, b6⟩
  have GA := ok_some (fun_of F12) dh
  have GE := ok_ends (P := L.prog) (w := w) (K := K) (mg := mg) (base := base) (fun_of F13) (fr 71 rfl)
  have GS := ok_still (fun_of F14) (fr 67 rfl) (fr 68 rfl) dh
  have GT := ok_test (fun_of F15) dh
  have GSt := ok_steps (fun_of F16) (fr 71 rfl) GD (gl 2 rfl) F2.kp b2 GA (gl 12 rfl) F12.kp b12 GE (gl 13 rfl) F13.kp b13 GS (gl 14 rfl) F14.kp b14
  have GDp := ok_deep (fun_of F19) GD (gl 2 rfl) F2.kp b2 GSt (gl 16 rfl) F16.kp b16 GS (gl 14 rfl) F14.kp b14 GT (gl 15 rfl) F15.kp b15
  have GPl := ok_pairL (P := L.prog) (w := w) (K := K) (mg := mg) (base := base) (fun_of F10) tW
  have GTl := ok_textL (fun_of F17) (fr 65 rfl) (fr 70 rfl) GPl (gl 10 rfl) F10.kp b10
  have GLs := ok_lws3 tN (fr 70 rfl) (fun_of F18) GTl (gl 17 rfl) F17.kp b17 (gl 18 rfl) F18.kp b18
  have GIp := ok_inP3 (fun_of F20) (fr 65 rfl) (fr 70 rfl) (fr 68 rfl) GPl (gl 10 rfl) F10.kp b10 (gl 20 rfl) F20.kp b20
  have GSr := ok_source (P := L.prog) (w := w) (K := K) (mg := mg) (base := base) (fun_of F1) tN
  have GNm := ok_name (P := L.prog) (w := w) (K := K) (mg := mg) (base := base) (fun_of F33) tS (fun_of F32) (gl 32 rfl) b32
  have GLy := ok_layer (P := L.prog) (w := w) (K := K) (mg := mg) (base := base) F34 tL
  have GCa := ok_can (P := L.prog) (w := w) (K := K) (mg := mg) (base := base) (fun_of F23) GWh FIr tR (gl 21 rfl) b21 (gl 22 rfl) b22
  have GFg := ok_figs (P := L.prog) (w := w) (K := K) (mg := mg) (base := base) (fun_of F29) tF
  have GRd := ok_readR (fun_of F30) tR (fr 70 rfl) (fr 61 rfl) GWh (gl 21 rfl) b21 FIr (gl 22 rfl) b22 GTx (gl 28 rfl) F28.kp b28 GFg (gl 29 rfl) F29.kp b29
  have GON := ok_orNone (fun_of F31) GRd (gl 30 rfl) F30.kp b30 (gl 60 rfl)
  have GLn := ok_isLen (fun_of F24) GCa (gl 23 rfl) F23.kp b23 GR (gl 26 rfl) F26.kp b26
  have GSc := ok_isScale (fun_of F25) GCa (gl 23 rfl) F23.kp b23 GR (gl 26 rfl) F26.kp b26
  have GIm := ok_item F35 GLy (gl 34 rfl) F34.kp bL GLn (gl 24 rfl) F24.kp b24 GSc (gl 25 rfl) F25.kp b25 GNm (gl 33 rfl) F33.kp b33
  have GRi := ok_rInit (P := L.prog) (w := w) (K := K) (mg := mg) (base := base) (fun_of F42) tX (fr 63 rfl)
  have GRw := ok_rWord (P := L.prog) (w := w) (K := K) (mg := mg) (base := base) (fun_of F44) tX (fr 62 rfl)
  have GRp := ok_rPass (fun_of F45) tX GRw (He.meth_ok (d.fact 44 rfl)) b44
  have GRt := ok_rItem (fun_of F51) tX GRw (He.meth_ok (d.fact 44 rfl)) b44 GIm (gl 35 rfl) F35.kp vI bI GON (gl 31 rfl) F31.kp b31
  have rm : RdM K (He.ga K "Reader") _ _ _ _ _ _ _ _ _ _ _ _ _ _ _ _ := ⟨(fun_of F44), (He.meth_ok (d.fact 44 rfl)), b44, (fun_of F45), (He.meth_ok (d.fact 45 rfl)), b45, (fun_of F51), (He.meth_ok (d.fact 51 rfl)), b51, (fun_of F50), (He.meth_ok (d.fact 50 rfl)), b50, (fun_of F48), (He.meth_ok (d.fact 48 rfl)), b48, (fun_of F49), (He.meth_ok (d.fact 49 rfl)), b49, (fun_of F47), (He.meth_ok (d.fact 47 rfl)), b47, (fun_of F46), (He.meth_ok (d.fact 46 rfl)), b46⟩
  have GTp := ok_rTop rm tX tSh (gl 58 rfl) hA gM rM (fr 61 rfl) (fr 68 rfl) GRw GRp GRt
  have GAl := ok_rAll (fun_of F43) tX (fr 62 rfl) GTp (He.meth_ok (d.fact 46 rfl)) b46
  have GRs := ok_readS (fun_of F41) tX (fr 65 rfl) (fr 70 rfl) (gl 52 rfl) (He.mkr_ok (d.fact 42 rfl)) GRi b42 GAl (He.meth_ok (d.fact 43 rfl)) b43
  have kR := kbindsN (ps := ["text"]) F41 0 ["text"] (fun _ ws => ws) (fun _ r => r) fun _ _ _ _ _ _ us ws h1 h2 => match us, ws, h1, h2 with | [], [_], _, _ => rfl
  exact ok_law (fun_of F0) (fr 67 rfl) ⟨GSr, (gl 1 rfl), F1.kp, b1⟩ ⟨GD, (gl 2 rfl), F2.kp, b2⟩ ⟨GN, (gl 7 rfl), F7.kp, b7⟩ ⟨GDp, (gl 19 rfl), F19.kp, b19⟩ ⟨GTo, (gl 36 rfl), F36.kp, b36⟩ ⟨GRs, (gl 41 rfl), F41.kp, b41⟩ kR ⟨GIp, (gl 20 rfl), F20.kp, b20⟩ ⟨GLs, (gl 18 rfl), F18.kp, b18⟩ (ok_same (P := L.prog) (w := w) (K := K) (mg := mg) (base := base) (fun_of F4) tN) (gl 4 rfl) F4.kp b4
end Lw

set_option maxRecDepth 100000
set_option maxHeartbeats 0
open PySem PySem.W PySem.Calls PyProof.Rows
theorem PySem.Challenge.cw_missingmiles_k23_whole_texts_of_steps_re_holds : PySem.Challenge.rw_missingmiles_k23_whole_texts_of_steps_re.Holds := by
  w_on; o_law
  refine HandSHeadRun.head_imp (r := OpenLaw.row PySem.Challenge.rw_missingmiles_k23_whole_texts_of_steps_re) (q := view (OpenLaw.row PySem.Challenge.rw_missingmiles_k23_whole_texts_of_steps_re).prog [0, 61]) (H := Lw.hk) (ob := Lw.ob) (M := 6000) (loose := Lw.loose)
    (d := HandSHeadRun.topDef (OpenLaw.row PySem.Challenge.rw_missingmiles_k23_whole_texts_of_steps_re).prog 61) (kwd := []) Lw.ob_eq Lw.run
    (by kernel_rfl) (by kernel_rfl) (by kernel_rfl) (by rfl) (by first | assumption | decide +kernel) (by decide +kernel) ⟨rfl, rfl, rfl, rfl, rfl, by decide +kernel⟩ ?hw ?hc
  case hw => w_witness2
  case hc =>
    refine VG.walkGE (l := PySem.Challenge.rw_missingmiles_k23_whole_texts_of_steps_re) (n := 63) (k := 20) (x := "_law_script") (CX := fun _ => L2.CX0) rfl (by decide) (by kernel_rfl) ⟨rfl, by decide, by decide⟩ ?F (fun _ _ _ _ _ z => z)
    intro w mg fa h Y G hmg0
    obtain ⟨K, KX, c⟩ := Y
    have e : (HandSHeadRun.topDef (OpenLaw.row PySem.Challenge.rw_missingmiles_k23_whole_texts_of_steps_re).prog 61).name = ("law" : PySem.Str) := by kernel_rfl
    rw [e] at hmg0
    exact ⟨K, KX, Lw.facts KX G hmg0 c⟩

