import PyProof.Rows.All
import Wide.All
import OpenK.AllK
import Wide.FinOn
import PyProof.Rows.NestShow
import HandS.ForMost
import HandS.Exc
import HandS.ExcOwn
import HandS.WordsExc
import HandS.Defaults
import HandS.More
import HandS.Strs
import HandS.Conv
import HandS.SetFor
import HandS.SortInts
import HandS.DictComp
import HandS.TupAny
import HandS.ExcIs
import HandS.Evl
import KE.GoesEnum
import HandS.RaiseMore
import KE.SortData
import KE.SortKeyHeap
import KE.KDictPairs
import KE.KDictList
import PySem.Challenge.RW_eachsome_k52_whole_letters_that_have_to
import HandS.Deep
import HandS.ExcBuiltin
set_option Elab.async false
set_option linter.all false
set_option maxRecDepth 100000
set_option maxHeartbeats 4000000
/-! Own rules: repr of data where nothing is being shown, set of a tuple of ints, a text times a number, an own error made without arguments, calls by names alone; defs whose promise needs that nothing is being shown. -/
namespace Ea
open PySem PySem.Spec PyProof.Rows L2

/-! ### repr -/
def rRepr (K : PySem.W.Frag) : List V → Hp → VK → Prop := fun xs H Q =>
  ∃ (x : V) (d : PyData), xs = [x] ∧ Dp K H x d ∧ d.showable = true ∧ isDisplay d = true ∧ d.hasDict = false ∧ d.depth ≤ 40 ∧ d.shown.length ≤ sizeLine ∧ Q (.str d.shown) H
section
variable {X : Cx}
theorem cr_repr (hg : X.A.guards = some []) (hu : X.A.units + 64 < cLine) : CallR X (.builtin "repr") (rRepr X.K) := by
  intro pins s σ H xs us Q I r h
  obtain ⟨x, d, rfl, hd, h1, h2, h3, h4, h5, q⟩ := h
  obtain ⟨u, rfl, ru⟩ := vals1 r
  obtain ⟨as, rd⟩ := Dp.reads I d x u hd ru
  obtain ⟨a, rfl⟩ := isRef_of_reads rd h2
  exact repr_of_reads' rd h1 (PyData.noDict_hsm h3) hg (by omega) (fun _ _ e => e)
    (fun h' tk u hk => ⟨.str d.shown, H, I.kept hk, ⟨_, rfl⟩, q⟩) h5

/-! ### set of a tuple of ints -/
def rSetI (K : PySem.W.Frag) (w : World) : List V → Hp → VK → Prop := fun xs H Q =>
  ∃ (p : Addr) (ns : List Int), xs = [.ref p] ∧ SqT K H p (ns.map V.int) ∧ ns.length ≤ 1000 ∧
    ∀ (a : Addr) (c : Nat), H a = none → c ≤ ns.length → Q (.ref a) (upd H a (SetO w a (fun j => decide (j ∈ ns)) c))
theorem cr_setI (hc : X.calm = true) : CallR X (.type "set") (rSetI X.K X.w) := by
  intro pins s σ H xs us Q I r h
  obtain ⟨p, ns, rfl, hp, hl, q⟩ := h
  rw [Vals.ref1 r]
  obtain ⟨its, rv, pt, hz⟩ := I.tuple hp
  have hi : IntsAre its.toArray.toList ns := by simpa using rv.ints
  have hf : H s.heap.objs.size = none := I.hok.fresh (Nat.le_refl _)
  refine call_set_tupI ns (I.ok.hd hc) pt hi (by unfold scanBound; omega) fun h' tk c R1 hcn k => ?_
  exact ⟨.ref _, upd H s.heap.objs.size (SetO X.w s.heap.objs.size (fun j => decide (j ∈ ns)) c),
    I.laid (t' := tk) k (Nat.le_refl _) (setO_new R1), rfl, q _ c hf hcn⟩

/-! ### a text times a number -/
theorem folded_size (z : Array Nat) : ∀ (n : Nat) (acc : Array Nat), ((List.replicate n z).foldl (· ++ ·) acc).size = acc.size + n * z.size
  | 0, acc => by simp
  | n + 1, acc => by
    rw [List.replicate_succ, List.foldl_cons, folded_size z n, Array.size_append, Nat.succ_mul]
    omega
def repS (z : Str) (n : Int) : Str := ⟨(List.replicate n.toNat z.cps).foldl (· ++ ·) #[]⟩
def rMulS : R2 := fun x y H Q => ∃ z n, x = .str z ∧ y = .int n ∧ 0 ≤ n ∧ n ≤ 1000 ∧ z.length ≤ 1000 ∧ 1 ≤ z.length ∧ Q (.str (repS z n)) H
theorem repS_length (z : Str) (n : Int) : (repS z n).length = n.toNat * z.length := by
  have h := folded_size z.cps n.toNat #[]
  rw [Array.size_empty, Nat.zero_add] at h
  exact h
theorem repS_fits {z : Str} {n : Int} (h1 : n ≤ 1000) (h2 : z.length ≤ 1000) : (repS z n).length ≤ sizeLine := by
  rw [repS_length, sizeLine_eq]
  have : n.toNat * z.length ≤ 1000 * 1000 := Nat.mul_le_mul (by omega) h2
  omega
theorem op_mulS : OpR X (binaryOp .Mult) rMulS := by
  intro pins s σ H x y v u Q I rx ry h
  obtain ⟨z, n, rfl, rfl, h0, h1, h2, h3, q⟩ := h
  obtain ⟨t, rfl⟩ := rx
  obtain ⟨t', rfl⟩ := ry
  have hlen : z.length * n.toNat ≤ 1000 * 1000 := Nat.mul_le_mul h2 (by omega)
  have hr : (decide (n < -(2 ^ 63 : Int)) || decide (n ≥ 2 ^ 63)) = false := by
    rw [decide_eq_false (by omega), decide_eq_false (by omega)]; rfl
  refine PySem.P.mul_str hr ?_ ?_ ?_
  · intro hn _ hgt
    have e : (1000 : Int) ≤ (2 ^ 63 - 1) / n := by
      rw [Int.le_ediv_iff_mul_le (by omega)]
      omega
    omega
  · intro _ _
    unfold Builtin.Str.tooLong
    rw [decide_eq_false_iff_not, sizeLine_eq]
    omega
  · by_cases c1 : n < 1
    · rw [if_pos c1]
      have e0 : n = 0 := by omega
      subst e0
      refine ⟨by decide, .str (repS z 0), H, I.tok _, ⟨_, rfl⟩, q⟩
    · rw [if_neg c1]
      by_cases c2 : (n == 1 || z.length == 0) = true
      · rw [if_pos c2]
        have e1 : n = 1 := by
          rcases Bool.or_eq_true _ _ |>.mp c2 with h | h
          · exact eq_of_beq h
          · have := eq_of_beq h
            omega
        subst e1
        have e2 : repS z 1 = z := by
          unfold repS
          show (⟨#[] ++ z.cps⟩ : Str) = z
          rw [Array.empty_append]
        rw [e2] at q
        exact ⟨.str z, H, I, ⟨_, rfl⟩, q⟩
      · rw [if_neg c2]
        exact ⟨repS_fits h1 h2, .str (repS z n), H, I.tok _, ⟨_, rfl⟩, q⟩

/-! ### X(): an own error without arguments -/
theorem pmk_own0 {C : Addr} {bmB : List Value} {B newId initId : String} {x : Str} {p pos : Pos} (F : ExcBaseFacts B newId initId bmB)
    (q : PySem.W.excIn X.K C bmB newId = true) (gC : X.mg x = some (.ref C)) (kC : PySem.W.keepIn X.K (.ref C) = true)
    (r : Raises X (.ref C)) (hg : Gl X x) (hdb : (x == ("__debug__" : Str)) = false := by decide) :
    PMk X (.Call (.Name x p) [] [] pos) (fun _ H Q => Q (.ref C) none H) := by
  intro pins s σ H Q I h
  refine wpAny_Call_Name_kw (ld_glob I hg gC (PySem.W.callWith_K0 I.kIn kC ?_) hdb)
  obtain ⟨bm, N, nm, qn, bs, hdct, sn, sub, ab, col, dd, k0, k1, k2, k3, k5, mN, hC, hN, hni, T⟩ := exc_obj I.kIn q
  exact wpAny_call_exc_subT F T hC hN hni (fun h' e hm => mk_of I hm r h (I.hok.gone hm.new)) (Nat.zero_le _)

/-! ### f(k = v, ..) by names alone; what it lets out is wished at the slots -/
def tKw (m : Nat) (sp : Sp) (gV : List V → List V) (E : L2.St → XK) (tk : TA) : TE := fun σ H Q =>
  tk σ H fun zs H2 => zs.length = m ∧ sp (gV zs) H2 Q (E σ)
theorem pe_kw {CX : CXT} {k : Nat} {f : Addr} {fd : FuncData} {ps ks : List Str} {sp : Sp} {E : L2.St → XK} {x : Str} {p pos : Pos} {kws : List Keyword} {tk : TA}
    {g : List Value → List Value} {gV : List V → List V} (F : FnOk X.prog X.w X.K X.mg X.base CX k f fd ps sp) (hr : Room k X.A) (hg : Gl X x)
    (hm : X.mg x = some (.ref f)) (hk : PySem.W.keepIn X.K (.ref f) = true)
    (hto : ∀ (s : Shared) (ws : List Value), ws.length = ks.length → BindsTo s fd ⟨[], ks.zip ws⟩ (ps.zip (g ws)))
    (hrel : ∀ {zs : List V} {ws : List Value}, zs.length = ks.length → Vals zs ws → Vals (gV zs) (g ws))
    (hx : ∀ σ, PassesAt CX X σ (E σ)) (hkw : PK X kws tk)
    (hall : (backToKw pos (keywordEach kws X.env)).all (·.1.isSome) = true := by rfl)
    (hks : (backToKw pos (keywordEach kws X.env)).filterMap (·.1) = ks := by rfl)
    (hdb : (x == ("__debug__" : Str)) = false := by decide)
    (hpl : ((backTo pos (starEach [] X.env)).any (·.1) || (backToKw pos (keywordEach kws X.env)).any (·.1.isNone)) = false := by rfl) :
    PE X (.Call (.Name x p) [] kws pos) (tKw ks.length sp gV E tk) := by
  refine ⟨fun pins s σ H Q I h => ?_⟩
  refine wpAny_Call_Name_kw (ld_glob I hg hm (PySem.W.callWith_KW0 (h₀ := X.base) I.ok.mod.kin hk hall ?_ hpl) hdb)
  refine thn (hkw.run pos pins s σ H _ I h) fun ws s2 ⟨zs, H2, I2, rz, l2, q2⟩ => ⟨I2.kIn, ?_⟩
  rw [hks]
  have hl : (g ws).length = ps.length := by
    rw [← (hrel l2 rz).length]
    exact F.len _ _ _ _ q2
  refine wpAny_call (codeAny_mono (F.run X.A X.stack s2 H2 ⟨[], ks.zip ws⟩ (g ws) (gV zs) Q (E σ) hr I2.env0
    (hto s2 ws (rz.length.symm.trans l2)) (hrel l2 rz) q2) fun r s' hq => ?_)
  match r, hq with
  | .error e, hq => exact hx σ pins H2 s2 e s' I2 hq
  | .ok (.ret u), hq => exact I2.after hq

/-! ### where nothing is being shown -/
structure FnG (P : Program) (w : World) (K : PySem.W.Frag) (mg : Str → Option Value) (base : Heap) (k : Nat) (f : Addr) (fd : FuncData)
    (ps : List Str) (sp : Sp) : Prop where
  len : ∀ vs H Q E, sp vs H Q E → vs.length = ps.length
  run : ∀ (A : Around) (outer : List Env) (s : Shared) (H : Hp) (args : Args) (us : List Value) (vs : List V) (Q : VK) (E : XK),
    Room k A → A.guards = some [] → Env0 P w K mg base A outer s H → BindsTo s fd args (ps.zip us) → Vals vs us → sp vs H Q E →
    codeAny (model P w) A (.call (.ref f) args) (CR CX0 outer P w H s Q E) s
theorem FnG.mono {P : Program} {w : World} {K : PySem.W.Frag} {mg : Str → Option Value} {base : Heap} {j k : Nat} {f : Addr} {fd : FuncData}
    {ps : List Str} {sp : Sp} (F : FnG P w K mg base j f fd ps sp) (h : j ≤ k) : FnG P w K mg base k f fd ps sp :=
  ⟨F.len, fun A outer s H args us vs Q E hr => F.run A outer s H args us vs Q E (hr.mono h)⟩
theorem pe_callG {k : Nat} {f : Addr} {fd : FuncData} {ps : List Str} {sp : Sp} {x : Str} {p pos : Pos} {e : Expr} {es : List Expr} {t : TA}
    (F : FnG X.prog X.w X.K X.mg X.base k f fd ps sp) (hr : Room k X.A) (h0 : X.A.guards = some []) (hg : Gl X x)
    (hm : X.mg x = some (.ref f)) (hk : PySem.W.keepIn X.K (.ref f) = true) (hb : Binds X.K fd ps []) (ha : PA X (e :: es) t)
    (hdb : (x == ("__debug__" : Str)) = false := by decide)
    (he : starEach (e :: es) X.env = (false, eval e X.env) :: starEach es X.env := by rfl)
    (hpl : (backTo pos (starEach es X.env)).any (·.1) = false := by rfl) :
    PE X (.Call (.Name x p) (e :: es) [] pos) (tCall sp [] E0 t) := by
  refine ⟨fun pins s σ H Q I h => ?_⟩
  refine wpAny_Call_Name_kw (ld_glob I hg hm (PySem.W.callWith_K (h₀ := X.base) I.ok.mod.kin hk
    (thn (ha.run pos pins s σ H _ I h) fun us s1 hu => ?_) he hpl) hdb)
  obtain ⟨vs, H1, I1, r, q⟩ := hu
  rw [List.append_nil] at q
  refine ⟨I1.kIn, wpAny_call ?_⟩
  have hl : us.length = ps.length := by
    rw [← r.length]
    exact F.len _ _ _ _ q
  have b := hb s1 us I1.kIn (by rw [List.append_nil]; exact hl)
  rw [List.append_nil] at b
  refine codeAny_mono (F.run X.A X.stack s1 H1 ⟨us, []⟩ us vs Q E0 hr h0 I1.env0 b r q) fun r s' hq => ?_
  match r, hq with
  | .error e, hq => exact False.elim hq
  | .ok (.ret u), hq => exact I1.after hq
end
section
variable {P : Program} {w : World} {K : PySem.W.Frag} {mg : Str → Option Value} {base : Heap}
theorem okG {x qual : Str} {st : Stmt} {f : Addr} {fd : FuncData} {N ps : List Str} {k : Nat} {sp : Sp} (F : Fun K x qual st f fd)
    (S : FnScope N ps (defScope st)) (len : ∀ vs H Q E, sp vs H Q E → vs.length = ps.length)
    (hbody : ∀ (cdv : Value) (A : Around) (outer : List Env) (s : Shared) (H : Hp) (vs : List V) (Q : VK) (E : XK),
      Room k (A.deeper (envOfC qual (defScope st) s.heap.objs.size f cdv)) → A.guards = some [] → sp vs H Q E →
      ∃ t, PSs (cxOf CX0 P w K mg base N qual (defScope st) f cdv A outer s H E).nox (defBody st) t ∧
        t { nx := fun _ H' => Q .non H', rt := Q } (start N vs) H) : FnG P w K mg base (k + 1) f fd ps sp := by
  obtain ⟨oc, od, kV, doc, pm, an, cdv, ct, osl, rfl, lk, hcd⟩ := F.ex
  refine ⟨len, fun A outer s H args us vs Q E hr h0 e0 hb r hsp => ?_⟩
  have KX : K.In s.heap := e0.mod.kin.keeps fun b o e => (e0.bs b o e).1
  have lim : s.heap.NoLimit := e0.mod.nolimit.keeps fun b o e => (e0.bs b o e).1
  refine codeAny_call_function hr.depth (KX _ _ lk) rfl S.co S.gen rfl (PySem.W.codeRec_of KX hcd) (hb _ _ _ _
    (wpAny_newFunctionEnv_cells S.kind (fun y hy => ?_) fun env he s1 y => ?_))
  · obtain ⟨n, v⟩ := y
    exact (S.par n (List.of_mem_zip hy).1).imp id fun z => ⟨z, PySem.W.cellsFrom_some _ _ _ (.inl z)⟩
  · subst he
    refine ⟨lim.keeps y.toInCall.keep, codeAny_func ?_⟩
    obtain ⟨t, ht, hq⟩ := hbody cdv A outer s H vs Q E (hr.deeper _) h0 hsp
    have I : Inv (cxOf CX0 P w K mg base N qual (defScope st) f cdv A outer s H E) [] (start N vs) H s1 :=
      inv_start S hr.hd e0 (len _ _ _ _ hsp) r y
    refine wpAny_mono (ht.nox.run [] s1 (start N vs) H _ I hq) (fun fl s' hs => ?_) fun e s' hs => hs
    match fl, hs with
    | .ret u, ⟨v, σ', H', J, rv, q⟩ => exact ⟨v, H', J.os, J.bare, J.base, J.hok, rv, q⟩
    | .next, ⟨σ', H', J, q⟩ => exact ⟨V.non, H', J.os, J.bare, J.base, J.hok, rfl, q⟩
    | .brk, ⟨_, _, _, q⟩ => exact False.elim q
    | .cont, ⟨_, _, _, q⟩ => exact False.elim q
end
end Ea
set_option Elab.async false
set_option linter.all false
set_option maxRecDepth 100000
set_option maxHeartbeats 4000000
/-! The law's own call, from a promise that needs that nothing is being shown. -/
namespace Ea
open PySem PySem.Spec PyProof.Rows L2

section
variable {P : Program} {w : World} {K : PySem.W.Frag} {mg mb : Str → Option Value} {k : Nat} {fa a : Addr} {fd : FuncData} {x : Str} {sp : Sp}
  {s₁ : Shared} {vs : List Value} {ns : List Int}
/-- what the call is to end with -/
abbrev Fine (s₁ : Shared) : Result → Shared → Prop := fun r s' => r = .ok (.ret (.bool true)) ∧ OldK s₁.heap s'.heap ∧ s'.os = s₁.os ∧ AllBare s'.gens

theorem call_from (KX : K.In s₁.heap) (hns : s₁.heap.Ns mainGlobals mg) (hb : s₁.heap.Ns builtinsNs mb)
    (hbb : ∀ x : Str, x ≠ "__name__" → mb x = bootBuiltins x) (hlim : s₁.heap.NoLimit) (hg : s₁.gens = #[])
    (ha : s₁.heap.get? a = some { cls := .type "list", data := .seq vs.toArray }) (hr : Room k callerA)
    (F : ∀ base : Heap, K.In base → base.Ns mainGlobals mg → FnG P w K mg base k fa fd [x] sp)
    (hbind : ∀ (s : Shared) (u : Value), BindsTo s fd ⟨[u], []⟩ [(x, u)])
    {H : Hp} (hO : Only H) (hok : HOk P w H s₁.heap) (hA : ∀ b, H b ≠ none → b = a) (hK : H a ≠ none → K.lookup a = none)
    (h : sp [.ref a] H (fun v _ => v = .bl true) fun _ _ _ => False) :
    codeAny (model P w) callerA (.call (.ref fa) ⟨[.ref a], []⟩) (Fine s₁) s₁ := by
  have out : ∀ {b : Addr}, (∃ u, H b = some u) → b = a := fun {b} ⟨u, e⟩ => hA b (by rw [e]; exact nofun)
  have free : ∀ {b : Addr} {o : Obj} {es : Array DictEntry} {ep : Nat}, s₁.heap.get? b = some o → o.data = .dict es ep → H b = none := by
    intro b o es ep e d
    cases q : H b with
    | none => rfl
    | some u =>
      obtain rfl := out ⟨u, q⟩
      rw [ha] at e
      cases e
      cases d
  have nsK : ∀ {b : Addr} {m : Str → Option Value}, s₁.heap.Ns b m → (hidT s₁.heap H).Ns b m :=
    fun {b m} ⟨o, es, ep, e, d, r⟩ => ⟨o, es, ep, hidT_get e (free e d), d, r⟩
  have hKb : K.In (hidT s₁.heap H) := by
    intro b o e
    refine hidT_get (KX b o e) ?_
    cases q : H b with
    | none => rfl
    | some u =>
      obtain rfl := out ⟨u, q⟩
      rw [hK (by rw [q]; exact nofun)] at e
      cases e
  have lim : (hidT s₁.heap H).NoLimit := by
    obtain ⟨mc, h1, h2⟩ := hlim
    exact ⟨mc, nsK h1, h2⟩
  have e0 : Env0 P w K mg (hidT s₁.heap H) callerA [] s₁ H :=
    ⟨rfl, ⟨hKb, nsK hns, ⟨mb, nsK hb, hbb⟩, lim⟩, fun b o e => of_hidT e, Nat.le_of_eq (hidT_size _ _), trivial, nofun, hok, .of_eq hg⟩
  have run := (F _ hKb (nsK hns)).run callerA [] s₁ H ⟨[.ref a], []⟩ [.ref a] [.ref a] (fun v _ => v = .bl true) (fun _ _ _ => False) hr rfl e0
    (hbind s₁ (.ref a)) (.cons rfl .nil) h
  refine codeAny_mono run fun r s' hq => ?_
  match r, hq with
  | .error e, hq => exact False.elim hq
  | .ok (.ret u), ⟨v, H', os, bare, un, hok', r', (q' : v = .bl true)⟩ =>
    subst q'
    obtain rfl : u = Value.bool true := r'
    refine ⟨rfl, OldK.of_keep fun b o e => ?_, os, bare⟩
    cases q : H b with
    | none => exact un.keep b o e q nofun nofun
    | some u =>
      rcases hO b with z | ⟨ob, xs, z⟩
      · rw [q] at z
        cases z
      · obtain ⟨e1, _⟩ := hok b _ z
        obtain ⟨e2, _⟩ := hok' b _ (un.frzs b ob _ z)
        rw [e] at e1
        cases e1
        exact e2

theorem call_law (KX : K.In s₁.heap) (hns : s₁.heap.Ns mainGlobals mg) (hb : s₁.heap.Ns builtinsNs mb)
    (hbb : ∀ x : Str, x ≠ "__name__" → mb x = bootBuiltins x) (hlim : s₁.heap.NoLimit) (hg : s₁.gens = #[])
    (ha : s₁.heap.get? a = some { cls := .type "list", data := .seq vs.toArray }) (hi : IntsAre vs ns) (hl : ns.length ≤ sizeLine) (hr : Room k callerA)
    (F : ∀ base : Heap, K.In base → base.Ns mainGlobals mg → FnG P w K mg base k fa fd [x] sp)
    (hbind : ∀ (s : Shared) (u : Value), BindsTo s fd ⟨[u], []⟩ [(x, u)])
    (hsp : ∀ H : Hp, Only H → SqL K H a (ns.map V.int) → sp [.ref a] H (fun v _ => v = .bl true) fun _ _ _ => False) :
    codeAny (model P w) callerA (.call (.ref fa) ⟨[.ref a], []⟩) (Fine s₁) s₁ := by
  have rv := vals_ints hi
  cases hk : K.lookup a with
  | some o =>
    have e := KX a o hk
    rw [ha] at e
    cases e
    have hS : SqL K (fun _ => none) a (ns.map V.int) :=
      .inr ⟨_, vs.toArray, _, hk, rfl, rfl, rfl, by rw [List.size_toArray, hi.length]; exact hl, by simpa using rv⟩
    exact call_from KX hns hb hbb hlim hg ha hr F hbind (H := fun _ => none) (fun _ => .inl rfl) nofun (fun b z => absurd rfl z) (fun z => absurd rfl z) (hsp _ (fun _ => .inl rfl) hS)
  | none =>
    let one : HO := .frz { cls := .type "list", data := .seq vs.toArray } (.lst (ns.map V.int))
    let H : Hp := fun b => if b = a then some one else none
    have at_ : H a = some one := if_pos rfl
    have off : ∀ {b : Addr}, b ≠ a → H b = none := fun h => if_neg h
    have hO : Only H := fun b => by
      by_cases e : b = a
      · subst e
        exact .inr ⟨_, _, at_⟩
      · exact .inl (off e)
    have hS : SqL K H a (ns.map V.int) := .inl (.inr ⟨_, at_⟩)
    refine call_from KX hns hb hbb hlim hg ha hr F hbind hO (fun b u z => ?_) (fun b z => ?_) (fun _ => hk) (hsp H hO hS)
    · by_cases e : b = a
      · subst e
        rw [at_] at z
        cases z
        exact ⟨ha, by rw [List.length_map]; exact hl, vs, _, rv, ha⟩
      · rw [off e] at z
        cases z
    · by_cases e : b = a
      · exact e
      · exact absurd (off e) z
end
theorem walk_G {l : PySem.W.OpenLaw} {n k : Nat} {q : Program} {loose : List Str} {XP : (Str → Option Value) → Heap → Prop} {YP : World → Heap → Prop}
    {d : DefRec} {K : Params → PySem.W.Frag} {sp : World → Sp} {x : Str}
    (hn : l.most = some n) (hn2 : n ≤ sizeLine) (hdf : d.params.defaults = []) (hr : Room k callerA)
    (hY : ∀ (w : World) (h : Heap), YP w h → (K w.params).In h)
    (F : ∀ (w : World) (mg : Str → Option Value) (fa : Addr) (h : Heap), (K w.params).In h → h.Ns mainGlobals mg → mg d.name = some (.ref fa) →
      ∃ fd : FuncData, (∀ (s : Shared) (u : Value), BindsTo s fd ⟨[u], []⟩ [(x, u)]) ∧
        ∀ base : Heap, (K w.params).In base → base.Ns mainGlobals mg → FnG l.prog w (K w.params) mg base k fa fd [x] (sp w))
    (hsp : ∀ (w : World) (H : Hp) (a : Addr) (ns : List Int), ns.length ≤ n → Only H → SqL (K w.params) H a (ns.map V.int) →
      sp w [.ref a] H (fun v _ => v = .bl true) fun _ _ _ => False) :
    PySem.W.WalkO q loose XP YP l.row.toRowW d [] (fun f vs => PySem.call f vs) := by
  refine Att.attach_call hn hdf fun w s₀ s₁ mg mb fa o pm cd doc a vs ns G Y ho hd hcd hmg hobj hints hlen hg => ?_
  obtain ⟨fd, hb, hF⟩ := F w mg fa _ (hY w _ Y) G.T.g hmg
  exact call_law (hY w _ Y) G.T.g G.T.b G.T.builtins G.T.nolimit hg hobj hints (Nat.le_trans hlen hn2) hr hF hb fun H hO hS => hsp w H a ns hlen hO hS
end Ea
set_option Elab.async false
set_option linter.all false
set_option maxRecDepth 100000
set_option maxHeartbeats 4000000
/-! Readings gone through from the left: one lemma for each shape; a deck of draws (a dict). -/
namespace Ea
open PySem PySem.Spec PyProof.Rows L2

/-! ### built-ins by names of their own -/
def rInt : List V → Hp → VK → Prop := fun xs H Q => (∃ i, xs = [.int i] ∧ Q (.int i) H) ∨ ∃ k, xs = [.bl k] ∧ Q (.int (if k then 1 else 0)) H
def rAbs : List V → Hp → VK → Prop := fun xs H Q => ∃ i, xs = [.int i] ∧ Q (.int (if i < 0 then -i else i)) H
def rMin2 : List V → Hp → VK → Prop := fun xs H Q => ∃ i j, xs = [.int i, .int j] ∧ Q (.int (if j < i then j else i)) H
def rMax2 : List V → Hp → VK → Prop := fun xs H Q => ∃ i j, xs = [.int i, .int j] ∧ Q (.int (if j > i then j else i)) H
def rLenQ (K : PySem.W.Frag) : List V → Hp → VK → Prop := fun xs H Q => ∃ p ys, xs = [.ref p] ∧ (SqL K H p ys ∨ SqT K H p ys) ∧ Q (.int ys.length) H
def rLenS : List V → Hp → VK → Prop := fun xs H Q => ∃ z, xs = [.str z] ∧ z.length ≤ sizeLine ∧ Q (.int z.length) H
def rTupOf (K : PySem.W.Frag) : List V → Hp → VK → Prop := fun xs H Q => ∃ p ys, xs = [.ref p] ∧ ((SqL K H p ys ∧ ∀ l, H l = none → Q (.ref l) (upd H l (.tup ys))) ∨ (SqT K H p ys ∧ Q (.ref p) H))
def rListOf (K : PySem.W.Frag) : List V → Hp → VK → Prop := fun xs H Q => ∃ p ys, xs = [.ref p] ∧ (SqL K H p ys ∨ SqT K H p ys) ∧ ∀ l, H l = none → Q (.ref l) (upd H l (.lst ys))
section
variable {X : Cx}
theorem c_int : CallR X (.type "int") rInt := call_int1
theorem c_abs : CallR X (.builtin "abs") rAbs := call_abs
theorem c_min2 (hc : X.calm = true) : CallR X (.builtin "min") rMin2 := call_min2 hc
theorem c_max2 (hc : X.calm = true) : CallR X (.builtin "max") rMax2 := call_max2 hc
theorem c_len {K : PySem.W.Frag} (h : X.K = K) : CallR X (.builtin "len") (rLenQ K) := h ▸ call_len_seq
theorem c_lenS : CallR X (.builtin "len") rLenS := call_len_str
theorem c_tuple {K : PySem.W.Frag} (h : X.K = K) : CallR X (.type "tuple") (rTupOf K) := h ▸ call_tuple_of
theorem c_list {K : PySem.W.Frag} (h : X.K = K) : CallR X (.type "list") (rListOf K) := h ▸ call_list_of
theorem c_sum {K : PySem.W.Frag} (h : X.K = K) (hc : X.calm = true) : CallR X (.builtin "sum") (rSum K) := h ▸ cr_sum hc
theorem c_max {K : PySem.W.Frag} (h : X.K = K) (hc : X.calm = true) : CallR X (.builtin "max") (rMax K) := h ▸ cr_max hc
theorem c_min {K : PySem.W.Frag} (h : X.K = K) (hc : X.calm = true) : CallR X (.builtin "min") (rMin K) := h ▸ cr_min hc
theorem c_sorted {K : PySem.W.Frag} (h : X.K = K) : CallR X (.builtin "sorted") (rSortedI K) := h ▸ cr_sortedI
theorem c_repr {K : PySem.W.Frag} (h : X.K = K) (hg : X.A.guards = some []) (hu : X.A.units + 64 < cLine) : CallR X (.builtin "repr") (rRepr K) := h ▸ cr_repr hg hu
theorem c_set {K : PySem.W.Frag} {w : World} (h : X.K = K) (h2 : X.w = w) (hc : X.calm = true) : CallR X (.type "set") (rSetI K w) := h ▸ h2 ▸ cr_setI hc
theorem ik_list {K : PySem.W.Frag} (h : X.K = K) : IxR X (rIxL K) := h ▸ ix_list
theorem ik_tup {K : PySem.W.Frag} (h : X.K = K) : IxR X (rIxT K) := h ▸ ix_tup
theorem ik_dict {K : PySem.W.Frag} {w : World} (h : X.K = K) (h2 : X.w = w) : IxR X (rIxD K w) := h ▸ h2 ▸ ix_kdict
theorem sk_list {K : PySem.W.Frag} (h : X.K = K) : SlR X (rSlL K) := h ▸ sl_list
theorem sk_tup {K : PySem.W.Frag} (h : X.K = K) : SlR X (rSlA K) := h ▸ sl_tupA
theorem ok_in {K : PySem.W.Frag} (h : X.K = K) : OpR X (compareOp .In) (rIn K false) := h ▸ op_in_seq
theorem ok_notIn {K : PySem.W.Frag} (h : X.K = K) : OpR X (compareOp .NotIn) (rIn K true) := h ▸ op_notIn_seq
theorem ok_eqD {K : PySem.W.Frag} (h : X.K = K) (hu : X.A.units + 64 < cLine) : OpR X (compareOp .Eq) (rEqD K) := h ▸ op_eqD hu
theorem ok_neD {K : PySem.W.Frag} (h : X.K = K) (hu : X.A.units + 64 < cLine) : OpR X (compareOp .NotEq) (rNeD K) := h ▸ op_neD hu
theorem ok_catT {K : PySem.W.Frag} (h : X.K = K) : OpR X (binaryOp .Add) (rCatA K) := h ▸ op_catA
theorem ok_sin {w : World} (h : X.w = w) : OpR X (compareOp .In) (rSIn w) := h ▸ or_sin
theorem ok_snotin {w : World} (h : X.w = w) : OpR X (compareOp .NotIn) (rSNotIn w) := h ▸ or_snotin
theorem ik_tupI {K : PySem.W.Frag} (h : X.K = K) {tg l : Expr} {tl : TE} (hl : PE X l tl) : PI X tg l (iTup K tl) := h ▸ pi_tup hl
theorem ik_listI {K : PySem.W.Frag} (h : X.K = K) {tg l : Expr} {tl : TE} (hl : PE X l tl) : PI X tg l (iList K tl) := h ▸ pi_list hl
def tTruK (K : PySem.W.Frag) (ta : TE) : TT := fun σ H Q => ta σ H fun x H' => ∃ k, TruV K x H' k ∧ Q k H'
theorem pk_truth {K : PySem.W.Frag} (h : X.K = K) {a : Expr} {ta : TE} (ha : PE X a ta)
    (he : ∀ whole, isTrue a X.env whole = (do let v ← whole; standAt a.pos; holding [v] (truthy v))) : PT X a (tTruK K ta) := h ▸ pt_truth ha he
end
section
variable {K : PySem.W.Frag} {σ σ' : L2.St} {H : Hp} {Q : VK} {QB : Bool → Hp → Prop} {QA : List V → Hp → Prop} {D : Ends} {i j : Nat} {x y v w : V}
  {ta tb te td ty : TE} {tt tu : TT} {r : R2} {a b : Int} {ts tz : TS} {g : Int → Int → V} {gi : Int → V} {C : Int → Int → Prop} {tr : TA} {tl th : TO}
theorem rd_start {t : TS} (e : σ = σ') (h : t D σ' H) : t D σ H := by
  subst e
  exact h
theorem rd_seq (h : ts { D with nx := tz D } σ H) : tSeq ts tz D σ H := h
theorem rd_if (h : tt σ H fun c H1 => if c = true then ts D σ H1 else tz D σ H1) : tIfS tt ts tz D σ H := h
theorem rd_next (h : D.nx σ H) : tNext D σ H := h
theorem rd_ret (h : te σ H D.rt) : tRet te D σ H := h
theorem rd_drop (h : te σ H fun _ H1 => D.nx σ H1) : tDrop te D σ H := h
theorem rd_asg {tg : TG} (h : te σ H fun x H1 => tg x σ H1 D.nx) : tAsg te tg D σ H := h
theorem rd_name {N : L2.St → Hp → Prop} (hs : σ.set i (some v) = σ') (h : N σ' H) : gName i v σ H N := by
  subst hs
  exact h
theorem rd_var (hv : σ[i]? = some (some v)) (h : Q v H) : tVar i σ H Q := ⟨v, hv, h⟩
theorem rd_c (h : Q v H) : tC v σ H Q := h
theorem rd_op (h : ta σ H fun x H1 => tb σ H1 fun y H2 => r x y H2 Q) : tOp r ta tb σ H Q := h
theorem rd_un {ru : V → Hp → VK → Prop} (h : ta σ H fun x H1 => ru x H1 Q) : tUn ru ta σ H Q := h
theorem rd_I0 (h : Q (g a b) H) : rI0 g (.int a) (.int b) H Q := ⟨a, b, rfl, rfl, h⟩
theorem rd_I (hc : C a b) (h : Q (g a b) H) : rI C g (.int a) (.int b) H Q := ⟨a, b, rfl, rfl, hc, h⟩
theorem rd_U (h : Q (gi a) H) : rU gi (.int a) H Q := ⟨a, rfl, h⟩
theorem rd_eq (hs : scal x y = true) (h : Q (.bl (decide (x = y))) H) : rEq x y H Q := ⟨hs, h⟩
theorem rd_ne (hs : scal x y = true) (h : Q (.bl (!decide (x = y))) H) : rNe x y H Q := ⟨hs, h⟩
theorem rd_test (h : te σ H fun x H' => ∃ k, x = .bl k ∧ QB k H') : tTest te σ H QB := h
theorem rd_B (h : te σ H fun x H' => ∃ k, x = .bl k ∧ QB k H') : tB te σ H QB := h
theorem rd_not (h : tt σ H fun c H1 => QB (!c) H1) : tNot tt σ H QB := h
theorem rd_and (h : tt σ H fun c H1 => if c = true then tu σ H1 QB else QB false H1) : tAnd tt tu σ H QB := h
theorem rd_or (h : tt σ H fun c H1 => if c = true then QB true H1 else tu σ H1 QB) : tOr tt tu σ H QB := h
theorem rd_k {b : Bool} {P : Bool → Prop} (h : P b) : ∃ k, V.bl b = V.bl k ∧ P k := ⟨b, rfl, h⟩
theorem rd_ite {p : Prop} {_ : Decidable p} {A B : Prop} (h1 : p → A) (h2 : ¬ p → B) : if decide p = true then A else B := by
  by_cases h : p
  · rw [if_pos (decide_eq_true h)]
    exact h1 h
  · rw [if_neg (by rw [decide_eq_true_eq]; exact h)]
    exact h2 h
theorem rd_iten {p : Prop} {_ : Decidable p} {A B : Prop} (h1 : ¬ p → A) (h2 : p → B) : if (!decide p) = true then A else B := by
  by_cases h : p
  · rw [decide_eq_true h]
    exact h2 h
  · rw [decide_eq_false h]
    exact h1 h
theorem rd_iteb {b : Bool} {A B : Prop} (h1 : b = true → A) (h2 : b = false → B) : if b = true then A else B := by
  cases b with
  | true => exact h1 rfl
  | false => exact h2 rfl
theorem rd_ifE (h : tt σ H fun c H1 => if c = true then ta σ H1 Q else tb σ H1 Q) : tIf tt ta tb σ H Q := h
theorem rd_nil (h : QA [] H) : tNil σ H QA := h
theorem rd_cons (h : te σ H fun x H1 => tr σ H1 fun xs H2 => QA (x :: xs) H2) : tCons te tr σ H QA := h
theorem rd_call {sp : Sp} {ds : List V} {E : XK} (h : tr σ H fun vs H1 => sp (vs ++ ds) H1 Q E) : tCall sp ds E tr σ H Q := h
theorem rd_cb {rc : List V → Hp → VK → Prop} (h : tr σ H fun vs H1 => rc vs H1 Q) : tCB rc tr σ H Q := h
theorem rd_tup (h : tr σ H fun xs H1 => xs.length ≤ sizeLine ∧ ∀ p, H1 p = none → Q (.ref p) (upd H1 p (.tup xs))) : tTup tr σ H Q := h
theorem rd_lst (h : tr σ H fun xs H1 => xs.length ≤ sizeLine ∧ ∀ p, H1 p = none → Q (.ref p) (upd H1 p (.lst xs))) : tLst tr σ H Q := h
theorem rd_dget (h : td σ H fun x H1 => ty σ H1 fun y H2 => ∃ a v, x = .ref a ∧ DGet H2 a y (some v) ∧ Q v H2) : tDGet td ty σ H Q := h
theorem rd_sl {rs : V → Option Int → Option Int → Hp → VK → Prop} (h : te σ H fun x H1 => tl σ H1 fun l H2 => th σ H2 fun u H3 => rs x l u H3 Q) : tSl rs te tl th σ H Q := h
theorem rd_nopart {QO : Option Int → Hp → Prop} (h : QO none H) : tNoPart σ H QO := h
theorem rd_part {QO : Option Int → Hp → Prop} (h : te σ H fun x H1 => ∃ i, x = .int i ∧ QO (some i) H1) : tPart te σ H QO := h
theorem rd_parti {P : Int → Prop} (h : P a) : ∃ i, V.int a = .int i ∧ P i := ⟨a, rfl, h⟩
theorem rd_bm {T : String} {rm : V → List V → Hp → VK → Prop} (h : te σ H fun x H1 => tyV K T x H1 ∧ tr σ H1 fun xs H2 => rm x xs H2 Q) : tBM K T rm te tr σ H Q := h
theorem rd_bm0 {T : String} {rm : V → List V → Hp → VK → Prop} (h : te σ H fun x H1 => tyV K T x H1 ∧ rm x [] H1 Q) : tBM0 K T rm te σ H Q := h
theorem rd_dput (h : te σ H fun v H1 => td σ H1 fun x H2 => ty σ H2 fun y H3 => ∃ a H4, x = .ref a ∧ DPut H3 a y v H4 ∧ D.nx σ H4) : sDPut td ty te D σ H := h
theorem rd_par {t : TA} (h : t σ H fun vs H1 => ∃ v w, vs = [v, w] ∧ D.nx ((σ.set i (some v)).set j (some w)) H1) : tPar i j t D σ H := h
theorem rd_par2 {N : L2.St → Hp → Prop} (hs : (σ.set i (some v)).set j (some w) = σ') (h : N σ' H) :
    ∃ v' w', ([v, w] : List V) = [v', w'] ∧ N ((σ.set i (some v')).set j (some w')) H := by
  subst hs
  exact ⟨v, w, rfl, h⟩
/-- while, by a word that falls -/
theorem rd_while (W : Nat → L2.St → Hp → Prop) (m : Nat) (h0 : W m σ H)
    (hs : ∀ m σ1 H1, W m σ1 H1 → tt σ1 H1 fun b H2 => if b = true then
      ts { D with nx := fun σ' H' => ∃ m', m' < m ∧ W m' σ' H', ct := fun σ' H' => ∃ m', m' < m ∧ W m' σ' H', bk := D.nx } σ1 H2 else D.nx σ1 H2)
    (mono : ∀ σ H Q Q', (∀ b H1, Q b H1 → Q' b H1) → tt σ H Q → tt σ H Q') : tWhile tt ts D σ H :=
  ⟨W, ⟨m, h0⟩, fun m σ1 H1 w => mono _ _ _ _ (fun b H2 h => by
    cases b with
    | true => exact ⟨_, fun _ _ z => z, h⟩
    | false => exact h) (hs m σ1 H1 w)⟩
theorem rd_whileE (h : ∃ W : Nat → L2.St → Hp → Prop, (∃ m, W m σ H) ∧ ∀ m σ H, W m σ H → tt σ H fun b H1 => if b = true then ∃ N : L2.St → Hp → Prop,
    (∀ σ' H', N σ' H' → ∃ m', m' < m ∧ W m' σ' H') ∧ ts { D with nx := N, ct := N, bk := D.nx } σ H1 else D.nx σ H1) : tWhile tt ts D σ H := h
theorem rd_tru (h : ta σ H fun x H' => ∃ k, TruV K x H' k ∧ QB k H') : tTruK K ta σ H QB := h
theorem rd_truI {P : Bool → Prop} (h : P (a != 0)) : ∃ k, TruV K (.int a) H k ∧ P k := ⟨_, rfl, h⟩
theorem rd_int1 (h : Q (.int a) H) : (∃ i, ([.int a] : List V) = [.int i] ∧ Q (.int i) H) ∨ ∃ k, ([.int a] : List V) = [.bl k] ∧ Q (.int (if k then 1 else 0)) H := .inl ⟨a, rfl, h⟩
end

section
variable {K : PySem.W.Frag} {H : Hp} {Q : VK} {a b : Int} {k : Bool} {p : Addr} {ys : List V} {z : Str}
theorem rd_int (h : Q (.int a) H) : rInt [.int a] H Q := .inl ⟨a, rfl, h⟩
theorem rd_intb (h : Q (.int (if k then 1 else 0)) H) : rInt [.bl k] H Q := .inr ⟨k, rfl, h⟩
theorem rd_abs (h : Q (.int (a.natAbs : Int)) H) : rAbs [.int a] H Q := ⟨a, rfl, by
  rw [show (if a < 0 then -a else a) = (a.natAbs : Int) by split <;> omega]
  exact h⟩
theorem rd_min2 (h : Q (.int (if b < a then b else a)) H) : rMin2 [.int a, .int b] H Q := ⟨a, b, rfl, h⟩
theorem rd_max2 (h : Q (.int (if b > a then b else a)) H) : rMax2 [.int a, .int b] H Q := ⟨a, b, rfl, h⟩
theorem rd_lenL (s : SqL K H p ys) (h : Q (.int ys.length) H) : rLenQ K [.ref p] H Q := ⟨p, ys, rfl, .inl s, h⟩
theorem rd_lenT (s : SqT K H p ys) (h : Q (.int ys.length) H) : rLenQ K [.ref p] H Q := ⟨p, ys, rfl, .inr s, h⟩
theorem rd_lenS (s : z.length ≤ sizeLine) (h : Q (.int z.length) H) : rLenS [.str z] H Q := ⟨z, rfl, s, h⟩
theorem rd_tupL (s : SqL K H p ys) (h : ∀ l, H l = none → Q (.ref l) (upd H l (.tup ys))) : rTupOf K [.ref p] H Q := ⟨p, ys, rfl, .inl ⟨s, h⟩⟩
theorem rd_tupT (s : SqT K H p ys) (h : Q (.ref p) H) : rTupOf K [.ref p] H Q := ⟨p, ys, rfl, .inr ⟨s, h⟩⟩
theorem rd_listL (s : SqL K H p ys) (h : ∀ l, H l = none → Q (.ref l) (upd H l (.lst ys))) : rListOf K [.ref p] H Q := ⟨p, ys, rfl, .inl s, h⟩
theorem rd_listT (s : SqT K H p ys) (h : ∀ l, H l = none → Q (.ref l) (upd H l (.lst ys))) : rListOf K [.ref p] H Q := ⟨p, ys, rfl, .inr s, h⟩
theorem rd_ixL {x : V} {i : Int} (s : SqL K H p ys) (e : atI ys i = some x) (h : Q x H) : rIxL K (.ref p) (.int i) H Q := ⟨p, ys, i, x, rfl, rfl, s, e, h⟩
theorem rd_ixT {x : V} {i : Int} (s : SqT K H p ys) (e : atI ys i = some x) (h : Q x H) : rIxT K (.ref p) (.int i) H Q := ⟨p, ys, i, x, rfl, rfl, s, e, h⟩
theorem rd_ixS {c : Nat} {i : Int} (s : z.length ≤ sizeLine) (e : atI z.cps.toList i = some c) (h : Q (.str ⟨#[c]⟩) H) : rIxS (.str z) (.int i) H Q := ⟨z, i, c, rfl, rfl, s, e, h⟩
end

/-! ### a deck of draws, a dict -/
def DeckB (d l : Addr) (H : Hp) : Prop := ∃ (ns : List Int) (s : Int),
  H d = some (.dK [(.inr "deep", .ref l), (.inr "state", .int s)]) ∧ H l = some (.lst (ns.map V.int)) ∧ ns.length ≤ 63 ∧ (∀ n ∈ ns, 0 ≤ n) ∧ 0 ≤ s ∧ s < 2305843009213693951
/-- what is left as it was by draws: all but the deck -/
structure Go (d l : Addr) (H H' : Hp) : Prop where
  dk : DeckB d l H'
  kp : ∀ a o, a ≠ d → a ≠ l → H a = some o → H' a = some o
section
variable {d l : Addr} {H H1 H2 : Hp}
theorem DeckB.ne (h : DeckB d l H) : d ≠ l := by
  obtain ⟨ns, s, e1, e2, _⟩ := h
  exact ne_of e1 e2 nofun
theorem Go.refl (h : DeckB d l H) : Go d l H H := ⟨h, fun _ _ _ _ e => e⟩
theorem Go.trans (a : Go d l H H1) (b : Go d l H1 H2) : Go d l H H2 := ⟨b.dk, fun p o n1 n2 e => b.kp p o n1 n2 (a.kp p o n1 n2 e)⟩
theorem DeckB.off (h : DeckB d l H) {p : Addr} (e : H p = none) : p ≠ d ∧ p ≠ l := by
  obtain ⟨ns, s, e1, e2, _⟩ := h
  exact ⟨fun z => (by rw [z, e1] at e; cases e), fun z => (by rw [z, e2] at e; cases e)⟩
theorem DeckB.upd (h : DeckB d l H) {p : Addr} {o : HO} (n1 : p ≠ d) (n2 : p ≠ l) : DeckB d l (upd H p o) := by
  obtain ⟨ns, s, e1, e2, r⟩ := h
  exact ⟨ns, s, by rw [upd_ne n1.symm]; exact e1, by rw [upd_ne n2.symm]; exact e2, r⟩
theorem Go.new (h : DeckB d l H) {p : Addr} {o : HO} (e : H p = none) : Go d l H (upd H p o) := by
  obtain ⟨n1, n2⟩ := h.off e
  exact ⟨h.upd n1 n2, fun q u _ _ eq => by rw [upd_ne (ne_of_none eq e)]; exact eq⟩
/-- an object that H does not know may change -/
theorem Go.mut (g : Go d l H H1) (h : DeckB d l H) {p : Addr} {o : HO} (e : H p = none) : Go d l H (upd H1 p o) := by
  obtain ⟨n1, n2⟩ := h.off e
  exact ⟨g.dk.upd n1 n2, fun q u m1 m2 eq => by rw [upd_ne (ne_of_none eq e)]; exact g.kp q u m1 m2 eq⟩
theorem Go.back (g : Go d l H H1) (h : DeckB d l H) {p : Addr} (e : H1 p = none) : H p = none := by
  obtain ⟨n1, n2⟩ := g.dk.off e
  cases q : H p with
  | none => rfl
  | some o =>
    rw [g.kp p o n1 n2 q] at e
    cases e
/-- a tuple stays -/
theorem Go.tup {K : PySem.W.Frag} (g : Go d l H H1) (h : DeckB d l H) {a : Addr} {xs : List V} (t : SqT K H a xs) : SqT K H1 a xs := by
  obtain ⟨ns, s, e1, e2, _⟩ := h
  have hn : ∀ {o : HO}, H a = some o → (∀ kv, o ≠ .dK kv) → (∀ ys, o ≠ .lst ys) → H1 a = some o := fun e c1 c2 =>
    g.kp a _ (fun z => (by rw [z, e1] at e; cases e; exact c1 _ rfl)) (fun z => (by rw [z, e2] at e; cases e; exact c2 _ rfl)) e
  rcases t with (t | ⟨o, t⟩) | t
  · exact .inl (.inl (hn t nofun nofun))
  · exact .inl (.inr ⟨o, hn t nofun nofun⟩)
  · exact .inr t
end
end Ea
set_option Elab.async false
set_option linter.all false
set_option maxRecDepth 100000
set_option maxHeartbeats 4000000
/-! Data that can be shown, compared: how great they are. -/
namespace Ea
open PySem PySem.Spec PyProof.Rows L2

structure Nice (n k : Nat) (d : PyData) : Prop where
  bulk : d.bulk ≤ n
  depth : d.depth ≤ k
  lay : d.canLay0 = true
  show_ : d.showable = true
  short : d.leavesShort 13 = true
  dict : d.hasDict = false
structure NiceAll (n k : Nat) (ds : List PyData) : Prop where
  bulk : PyData.bulkAll ds ≤ n
  depth : PyData.depthAll ds ≤ k
  lay : PyData.canLayAll0 ds = true
  show_ : PyData.showableAll ds = true
  short : PyData.leavesShortAll 13 ds = true
  dict : PyData.hasDictAll ds = false
theorem Nice.mono {n k m j : Nat} {d : PyData} (h : Nice n k d) (a : n ≤ m) (b : k ≤ j) : Nice m j d := ⟨Nat.le_trans h.bulk a, Nat.le_trans h.depth b, h.lay, h.show_, h.short, h.dict⟩
theorem NiceAll.mono {n k m j : Nat} {d : List PyData} (h : NiceAll n k d) (a : n ≤ m) (b : k ≤ j) : NiceAll m j d := ⟨Nat.le_trans h.bulk a, Nat.le_trans h.depth b, h.lay, h.show_, h.short, h.dict⟩
theorem Nice.non : Nice 0 0 .none := ⟨Nat.le_refl _, Nat.le_refl _, rfl, rfl, rfl, rfl⟩
theorem Nice.bool (b : Bool) : Nice 0 0 (.bool b) := ⟨Nat.le_refl _, Nat.le_refl _, rfl, rfl, rfl, rfl⟩
theorem log2_small {n : Nat} (h : n < 10 ^ 12) : n.log2 < 1920 := by
  by_cases h0 : n = 0
  · subst h0
    decide
  · rw [Nat.log2_lt h0]
    exact Nat.lt_trans h (by decide +kernel)
theorem Nice.int {i : Int} (h : i.natAbs < 10 ^ 12) : Nice 0 0 (.int i) :=
  ⟨Nat.le_refl _, Nat.le_refl _, rfl, decide_eq_true (log2_small h), decide_eq_true (PyData.shown_int_le h), rfl⟩
theorem Nice.str {x : Str} {n : Nat} (h : x.cps.size ≤ n) (hs : ∀ c ∈ x.cps.toList, c < 1114112) (ho : PyData.canLay0 (.str x) = true) : Nice n 0 (.str x) :=
  ⟨h, Nat.le_refl _, ho, rfl, by
    show (x.cps.toList.all fun c => decide (c < 16 ^ 8)) = true
    rw [List.all_eq_true]
    exact fun c hc => decide_eq_true (Nat.lt_of_lt_of_le (hs c hc) (by decide)), rfl⟩
theorem NiceAll.nil {k : Nat} : NiceAll 0 k [] := ⟨Nat.le_refl _, Nat.zero_le _, rfl, rfl, rfl, rfl⟩
theorem NiceAll.cons {n m k : Nat} {d : PyData} {ds : List PyData} (h : Nice n k d) (hs : NiceAll m k ds) : NiceAll (n + 1 + m) k (d :: ds) := by
  refine ⟨?_, ?_, ?_, ?_, ?_, ?_⟩
  · show d.bulk + 1 + PyData.bulkAll ds ≤ _
    have := h.bulk
    have := hs.bulk
    omega
  · show max d.depth (PyData.depthAll ds) ≤ _
    have := h.depth
    have := hs.depth
    omega
  · show (d.canLay0 && PyData.canLayAll0 ds) = true
    rw [h.lay, hs.lay] <;> rfl
  · show (d.showable && PyData.showableAll ds) = true
    rw [h.show_, hs.show_] <;> rfl
  · show (d.leavesShort 13 && PyData.leavesShortAll 13 ds) = true
    rw [h.short, hs.short] <;> rfl
  · show (d.hasDict || PyData.hasDictAll ds) = false
    rw [h.dict, hs.dict] <;> rfl
theorem Nice.cons2 {n m k : Nat} {d e : PyData} (h : Nice n k d) (h2 : Nice m k e) : NiceAll (n + 1 + (m + 1 + 0)) k [d, e] := NiceAll.cons h (NiceAll.cons h2 NiceAll.nil)
theorem Nice.cons3 {n m o k : Nat} {d e f : PyData} (h : Nice n k d) (h2 : Nice m k e) (h3 : Nice o k f) : NiceAll (n + 1 + (m + 1 + (o + 1 + 0))) k [d, e, f] := NiceAll.cons h (NiceAll.cons h2 (NiceAll.cons h3 NiceAll.nil))
theorem Nice.cons1 {n k : Nat} {d : PyData} (h : Nice n k d) : NiceAll (n + 1 + 0) k [d] := NiceAll.cons h NiceAll.nil
theorem Nice.tup {n k : Nat} {ds : List PyData} (h : NiceAll n k ds) : Nice n (k + 1) (.tuple ds) := ⟨h.bulk, Nat.succ_le_succ h.depth, h.lay, h.show_, h.short, h.dict⟩
theorem Nice.lst {n k : Nat} {ds : List PyData} (h : NiceAll n k ds) : Nice n (k + 1) (.list ds) := ⟨h.bulk, Nat.succ_le_succ h.depth, h.lay, h.show_, h.short, h.dict⟩
def dI (ns : List Int) : List PyData := ns.map PyData.int
theorem NiceAll.ints : ∀ {ns : List Int}, (∀ n ∈ ns, n.natAbs < 10 ^ 12) → NiceAll ns.length 0 (dI ns)
  | [], _ => NiceAll.nil
  | n :: r, h => by
    have z := NiceAll.cons (Nice.int (h n List.mem_cons_self)) (NiceAll.ints (ns := r) fun m hm => h m (List.mem_cons_of_mem _ hm))
    exact z.mono (by rw [List.length_cons]; omega) (Nat.le_refl _)
theorem dp_ints {K : PySem.W.Frag} {H : Hp} : ∀ (ns : List Int), DpAll K H (ns.map V.int) (dI ns)
  | [] => .nil
  | n :: r => .cons (.int n) (dp_ints r)
theorem dp_T {K : PySem.W.Frag} {H : Hp} {a : Addr} {ns : List Int} (h : SqT K H a (ns.map V.int)) : Dp K H (.ref a) (.tuple (dI ns)) := .tup h (dp_ints ns)
theorem dp_L {K : PySem.W.Frag} {H : Hp} {a : Addr} {ns : List Int} (h : SqL K H a (ns.map V.int)) : Dp K H (.ref a) (.list (dI ns)) := .lst h (dp_ints ns)
theorem Nice.shaped {n k : Nat} {d : PyData} (h : Nice n k d) (hk : k ≤ 64) : SeqAt.shaped d = true := by
  show (d.canLay0 && decide (d.depth ≤ 64)) = true
  rw [h.lay, decide_eq_true (Nat.le_trans h.depth hk)] <;> rfl

theorem lay_ints : ∀ ns : List Int, PyData.canLayAll0 (dI ns) = true ∧ PyData.depthAll (dI ns) = 0
  | [] => ⟨rfl, rfl⟩
  | n :: r => by
    obtain ⟨h1, h2⟩ := lay_ints r
    refine ⟨?_, ?_⟩
    · show (true && PyData.canLayAll0 (dI r)) = true
      rw [h1] <;> rfl
    · show max 0 (PyData.depthAll (dI r)) = 0
      rw [h2] <;> rfl
theorem shaped_ints (ns : List Int) : SeqAt.shaped (.list (dI ns)) = true := by
  obtain ⟨h1, h2⟩ := lay_ints ns
  show (PyData.canLayAll0 (dI ns) && decide (PyData.depthAll (dI ns) + 1 ≤ 64)) = true
  rw [h1, h2] <;> rfl
section
variable {K : PySem.W.Frag} {H : Hp} {Q : VK} {x y : V} {d e : PyData} {n k m j : Nat}
theorem rd_repr (hx : Dp K H x d) (h : Nice n k d) (hn : n ≤ 2 ^ 20) (hk : k ≤ 40) (hd : isDisplay d = true) (q : Q (.str d.shown) H) : rRepr K [x] H Q :=
  ⟨x, d, rfl, hx, h.show_, hd, h.dict, Nat.le_trans h.depth hk, PyData.shown_fits_bulk (by decide) (by decide) h.short (Nat.le_trans h.bulk hn), q⟩
theorem rd_eqD (hx : Dp K H x d) (hy : Dp K H y e) (h1 : Nice n k d) (h2 : Nice m j e) (hk : k ≤ 64) (hj : j ≤ 64) (q : Q (.bl (PyData.eqv d e)) H) : rEqD K x y H Q :=
  ⟨d, e, hx, hy, h1.shaped hk, h2.shaped hj, q⟩
theorem rd_neD (hx : Dp K H x d) (hy : Dp K H y e) (h1 : Nice n k d) (h2 : Nice m j e) (hk : k ≤ 64) (hj : j ≤ 64) (q : Q (.bl (!PyData.eqv d e)) H) : rNeD K x y H Q :=
  ⟨d, e, hx, hy, h1.shaped hk, h2.shaped hj, q⟩
/-- xs != [] -/
theorem rd_full {p : Addr} {a : Addr} {vs : List V} {ds : List PyData} (hx : SqL K H a vs) (hv : DpAll K H vs ds) (h : SeqAt.shaped (.list ds) = true) (hp : SqL K H p [])
    (q : Q (.bl (!vs.isEmpty)) H) : rNeD K (.ref a) (.ref p) H Q := by
  refine ⟨.list ds, .list [], .lst hx hv, .lst hp .nil, h, rfl, ?_⟩
  cases hv with
  | nil => exact q
  | cons a b => exact q
end
section
variable {K : PySem.W.Frag} {H : Hp} {Q : VK} {l : Addr} {xs : List V} {y : V} {A : Prop}
theorem rd_tyL (h : H l = some (.lst xs)) (q : A) : tyV K "list" (.ref l) H ∧ A := ⟨.inl ⟨rfl, _, SqL.of h⟩, q⟩
theorem rd_append (h : H l = some (.lst xs)) (hz : xs.length < 100000) (q : Q .non (upd H l (.lst (xs ++ [y])))) : rAppend (.ref l) [y] H Q :=
  ⟨l, xs, y, rfl, rfl, h, Evl.sz_lt hz, q⟩
theorem rd_pop (h : H l = some (.lst (xs ++ [y]))) (q : Q y (upd H l (.lst xs))) : rPop (.ref l) [] H Q :=
  ⟨l, xs ++ [y], y, rfl, rfl, h, by rw [List.length_append, List.length_singleton, Nat.add_sub_cancel, List.getElem?_append_right (Nat.le_refl _), Nat.sub_self] <;> rfl, by
    rw [List.dropLast_concat]
    exact q⟩
theorem rd_popAt {k : Nat} {i : Int} (h : H l = some (.lst xs)) (e : i = (k : Int)) (hk : xs[k]? = some y) (hz : xs.length ≤ 100000) (q : Q y (upd H l (.lst (xs.eraseIdx k)))) : rPopAt (.ref l) [.int i] H Q := by
  have hk' : k < xs.length := (List.getElem?_eq_some_iff.mp hk).1
  refine ⟨l, xs, i, k, y, rfl, rfl, h, by omega, by omega, ?_, hk, q⟩
  subst e
  have z := seqIndex_of (k := (k : Int)) (n := xs.length) (Int.natCast_nonneg k) (by exact_mod_cast hk')
  simpa using z
theorem at_nat {ys : List V} {i : Int} {k : Nat} (e : i = (k : Int)) (h : ys[k]? = some y) : atI ys i = some y := by
  rw [e]
  exact atI_nat h
end
/-! ### the draws' deck read -/
theorem kv_text {x : Str} : kV (Sum.inr x) = V.str x := rfl
theorem deck_deep {d l : Addr} {s : Int} {H : Hp} (h : H d = some (.dK [(.inr "deep", .ref l), (.inr "state", .int s)])) : DGet H d (.str "deep") (some (.ref l)) :=
  DGet.k (k := Sum.inr "deep") h
theorem deck_state {d l : Addr} {s : Int} {H : Hp} (h : H d = some (.dK [(.inr "deep", .ref l), (.inr "state", .int s)])) : DGet H d (.str "state") (some (.int s)) :=
  DGet.k (k := Sum.inr "state") h
theorem deck_put {d l : Addr} {s t : Int} {H : Hp} (h : H d = some (.dK [(.inr "deep", .ref l), (.inr "state", .int s)])) :
    DPut H d (.str "state") (.int t) (upd H d (.dK [(.inr "deep", .ref l), (.inr "state", .int t)])) :=
  DPut.k (k := Sum.inr "state") (v := .int t) h (by show 2 < sizeLine; rw [sizeLine_eq]; omega)
end Ea
set_option Elab.async false
set_option linter.all false
set_option maxRecDepth 100000
set_option maxHeartbeats 4000000
/-! Comprehensions and loops among draws; texts of owners. -/
namespace Ea
open PySem PySem.Spec PyProof.Rows L2

/-- what a comprehension's walk asks, by its iterator -/
def LcR (g : TG) (tt : TT) (te : TE) (vs : List Nat) (σ : L2.St) (Q : VK) (J : It) (H1 : Hp) : Prop :=
  ∀ D, H1 D = none → ∃ W : Nat → Nat → Hp → Prop, (∃ m, W 0 m (upd H1 D (.lst []))) ∧ ∀ i m H, W i m H →
    (J.stop i H ∧ Q (.ref D) H) ∨
    (J.go i H ∧ ∃ Nx : Hp → Prop, (∀ H', Nx H' → ∃ m', m' < m ∧ W (i + 1) m' H') ∧
      ∀ x H', J.yld i H x H' → g x (wipe σ vs) H' fun σ2 H2 => wipe σ2 vs = wipe σ vs ∧ tt σ2 H2 fun b H3 =>
        if b = true then te σ2 H3 fun y H4 => ∃ acc, H4 D = some (.lst acc) ∧ acc.length < sizeLine ∧ Nx (upd H4 D (.lst (acc ++ [y]))) else Nx H3)
section
variable {K : PySem.W.Frag} {σ : L2.St} {H : Hp} {Q : VK} {QB : Bool → Hp → Prop} {g : TG} {tt : TT} {te tl : TE} {ta : TA} {vs : List Nat} {wi : TI} {R : It → Hp → Prop} {a b : Int}
theorem rd_lc (h : wi σ H (LcR g tt te vs σ Q)) : tLc wi g tt te vs σ H Q := h
theorem rd_iTup (h : tl σ H fun x H1 => ∃ a, x = .ref a ∧ (∃ xs, SqT K H1 a xs) ∧ R (Itt K a) H1) : iTup K tl σ H R := h
theorem rd_iList (h : tl σ H fun x H1 => ∃ a, x = .ref a ∧ (∃ xs, SqL K H1 a xs) ∧ R (Itl K a) H1) : iList K tl σ H R := h
theorem rd_iRng1 (h : ta σ H fun vs H1 => ∃ j : Int, vs = [.int j] ∧ -(2 ^ 62) ≤ j ∧ j < 2 ^ 62 ∧ R (Itr 0 j.toNat) H1) : iRng1 ta σ H R := h
theorem rd_rng1 (h1 : -(2 ^ 62) ≤ a) (h2 : a < 2 ^ 62) (h : R (Itr 0 a.toNat) H) : ∃ j : Int, ([.int a] : List V) = [.int j] ∧ -(2 ^ 62) ≤ j ∧ j < 2 ^ 62 ∧ R (Itr 0 j.toNat) H := ⟨a, rfl, h1, h2, h⟩
theorem rd_ref {p : Addr} {xs : List V} {P : Addr → Prop} (s : SqT K H p xs) (h : P p) : ∃ a, V.ref p = .ref a ∧ (∃ xs, SqT K H a xs) ∧ P a := ⟨p, rfl, ⟨xs, s⟩, h⟩
theorem rd_refL {p : Addr} {xs : List V} {P : Addr → Prop} (s : SqL K H p xs) (h : P p) : ∃ a, V.ref p = .ref a ∧ (∃ xs, SqL K H a xs) ∧ P a := ⟨p, rfl, ⟨xs, s⟩, h⟩
theorem rd_yes (h : QB true H) : tYes σ H QB := h
theorem rd_true {A B : Prop} (h : A) : if true = true then A else B := by
  rw [if_pos rfl]
  exact h
theorem rd_false {A B : Prop} (h : B) : if false = true then A else B := h
end

section
variable {d l : Addr} {K : PySem.W.Frag} {σ : L2.St} {H : Hp} {Q : VK} {tt : TT} {te : TE} {vs : List Nat} {j : Nat} {σx : V → L2.St} {a : Addr} {xs : List V}
/-- a turn of a comprehension among draws -/
abbrev Turn (d l : Addr) (H : Hp) (tt : TT) (te : TE) (σx : V → L2.St) (Pv : Nat → List V → Prop) (i : Nat) (x : V) : Prop :=
  ∀ (acc : List V) (H' : Hp) (N : VK) (S : Hp → Prop), Go d l H H' → Pv i acc →
    (∀ y H3, Go d l H' H3 → Pv (i + 1) (acc ++ [y]) → N y H3) → (∀ H3, Go d l H' H3 → Pv (i + 1) acc → S H3) →
    tt (σx x) H' fun b H2 => if b = true then te (σx x) H2 N else S H2
def Cg (d l : Addr) (H : Hp) (Pv : Nat → List V → Prop) (D : Addr) (i : Nat) (H' : Hp) : Prop :=
  ∃ acc, H D = none ∧ Go d l H H' ∧ H' D = some (.lst acc) ∧ acc.length ≤ i ∧ Pv i acc
theorem cg_start {Pv : Nat → List V → Prop} (hD : DeckB d l H) (h0 : Pv 0 []) {D : Addr} (e : H D = none) : Cg d l H Pv D 0 (upd H D (.lst [])) :=
  ⟨[], e, Go.new hD e, upd_same, Nat.le_refl _, h0⟩
theorem cg_turn {Pv : Nat → List V → Prop} {D : Addr} {i : Nat} {x : V} {H' : Hp} (hD : DeckB d l H) (hi : i < 100000) (ht : Turn d l H tt te σx Pv i x) (p : Cg d l H Pv D i H') :
    tt (σx x) H' fun b H3 => if b = true then te (σx x) H3 fun y H4 => ∃ acc, H4 D = some (.lst acc) ∧ acc.length < sizeLine ∧ Cg d l H Pv D (i + 1) (upd H4 D (.lst (acc ++ [y]))) else Cg d l H Pv D (i + 1) H3 := by
  obtain ⟨acc, e, g, ea, hl, hp⟩ := p
  obtain ⟨n1, n2⟩ := hD.off e
  refine ht acc H' _ _ g hp (fun y H3 g3 hp3 => ?_) fun H3 g3 hp3 => ?_
  · refine ⟨acc, g3.kp D _ n1 n2 ea, Evl.sz_lt (by omega), acc ++ [y], e, Go.mut (g.trans g3) hD e, upd_same, ?_, hp3⟩
    rw [List.length_append, List.length_singleton]
    omega
  · exact ⟨acc, e, g.trans g3, g3.kp D _ n1 n2 ea, by omega, hp3⟩
theorem lc_goT (Pv : Nat → List V → Prop) (hD : DeckB d l H) (hx : SqT K H a xs) (hz : xs.length ≤ 40000) (hσ : ∀ x, (wipe σ vs).set j (some x) = σx x) (hw : ∀ x, wipe (σx x) vs = wipe σ vs)
    (h0 : Pv 0 []) (hs : ∀ i x, xs[i]? = some x → Turn d l H tt te σx Pv i x)
    (hd : ∀ D acc H', Go d l H H' → H D = none → H' D = some (.lst acc) → Pv xs.length acc → Q (.ref D) H') : LcR (gName j) tt te vs σ Q (Itt K a) H := fun D hn =>
  lc_tup (xs := xs) (Cg d l H Pv D) (cg_start hD h0 hn) (fun i H' _ ⟨_, _, g, _⟩ => g.tup hD hx) (fun i x H' hi p => by
    rw [show gName j x (wipe σ vs) H' = fun N => N (σx x) H' from funext fun N => by rw [← hσ x] <;> rfl]
    refine ⟨hw x, ?_⟩
    have := (List.getElem?_eq_some_iff.mp hi).1
    exact cg_turn hD (by omega) (hs i x hi) p) fun H' p => by
    obtain ⟨acc, e, g, ea, _, hp⟩ := p
    exact hd D acc H' g e ea hp
theorem lc_goL (Pv : Nat → List V → Prop) (hD : DeckB d l H) (hx : ∀ H', Go d l H H' → SqL K H' a xs) (hz : xs.length ≤ 40000) (hσ : ∀ x, (wipe σ vs).set j (some x) = σx x) (hw : ∀ x, wipe (σx x) vs = wipe σ vs)
    (h0 : Pv 0 []) (hs : ∀ i x, xs[i]? = some x → Turn d l H tt te σx Pv i x)
    (hd : ∀ D acc H', Go d l H H' → H D = none → H' D = some (.lst acc) → Pv xs.length acc → Q (.ref D) H') : LcR (gName j) tt te vs σ Q (Itl K a) H := fun D hn =>
  lc_list (xs := xs) (Cg d l H Pv D) (cg_start hD h0 hn) (fun i H' _ ⟨_, _, g, _⟩ => hx H' g) (fun i x H' hi p => by
    rw [show gName j x (wipe σ vs) H' = fun N => N (σx x) H' from funext fun N => by rw [← hσ x] <;> rfl]
    refine ⟨hw x, ?_⟩
    have := (List.getElem?_eq_some_iff.mp hi).1
    exact cg_turn hD (by omega) (hs i x hi) p) fun H' p => by
    obtain ⟨acc, e, g, ea, _, hp⟩ := p
    exact hd D acc H' g e ea hp
theorem lc_goR {lo : Int} {n : Nat} (Pv : Nat → List V → Prop) (hD : DeckB d l H) (hz : n ≤ 40000) (hσ : ∀ x, (wipe σ vs).set j (some x) = σx x) (hw : ∀ x, wipe (σx x) vs = wipe σ vs)
    (h0 : Pv 0 []) (hs : ∀ i, i < n → Turn d l H tt te σx Pv i (.int (lo + i)))
    (hd : ∀ D acc H', Go d l H H' → H D = none → H' D = some (.lst acc) → Pv n acc → Q (.ref D) H') : LcR (gName j) tt te vs σ Q (Itr lo n) H := fun D hn =>
  lc_range (Cg d l H Pv D) (cg_start hD h0 hn) (fun i H' hi p => by
    rw [show gName j (.int (lo + i)) (wipe σ vs) H' = fun N => N (σx (.int (lo + i))) H' from funext fun N => by rw [← hσ (.int (lo + i))] <;> rfl]
    exact ⟨hw _, cg_turn hD (by omega) (hs i hi) p⟩) fun H' p => by
    obtain ⟨acc, e, g, ea, _, hp⟩ := p
    exact hd D acc H' g e ea hp
end

/-! ### texts of "e" and "s" -/
def OwnS (n : Nat) (z : Str) : Prop := z.length = n ∧ ∀ c ∈ z.cps.toList, c = 101 ∨ c = 115
theorem folded_mem (z : Array Nat) : ∀ (n : Nat) (acc : Array Nat) (c : Nat), c ∈ ((List.replicate n z).foldl (· ++ ·) acc).toList → c ∈ acc.toList ∨ c ∈ z.toList
  | 0, acc, c, h => .inl h
  | n + 1, acc, c, h => by
    rw [List.replicate_succ, List.foldl_cons] at h
    rcases folded_mem z n _ c h with h | h
    · rw [Array.toList_append] at h
      exact List.mem_append.mp h
    · exact .inr h
theorem own_rep {z : Str} {k : Nat} {n : Int} (h : OwnS k z) (h0 : 0 ≤ n) : OwnS (n.toNat * k) (repS z n) := by
  refine ⟨by rw [repS_length, h.1], fun c hc => ?_⟩
  rcases folded_mem z.cps n.toNat #[] c hc with q | q
  · simp at q
  · exact h.2 c q
theorem own_add {y z : Str} {k m : Nat} (h1 : OwnS k y) (h2 : OwnS m z) : OwnS (k + m) (y ++ z) := by
  refine ⟨by rw [Str.length_append, h1.1, h2.1], fun c hc => ?_⟩
  have e : (y ++ z).cps.toList = y.cps.toList ++ z.cps.toList := by
    rw [Str.cps_append, Array.toList_append]
  rw [e] at hc
  exact (List.mem_append.mp hc).elim (h1.2 c) (h2.2 c)
theorem own_cut {z : Str} {k n : Nat} (h : OwnS k z) (hn : n ≤ k) : OwnS n (cutS z none (some (n : Int))) := by
  have e1 : HT.sIx z.length 0 none = 0 := HT.sIx_none _ _
  have e2 : HT.sIx z.length z.length (some (n : Int)) = min n z.length := HT.sIx_nat _ _ _
  refine ⟨?_, fun c hc => h.2 c ?_⟩
  · show (cutS z none (some (n : Int))).cps.size = n
    unfold cutS
    rw [e1, e2, List.drop_zero, List.size_toArray, List.length_take, Nat.sub_zero]
    have e3 : z.cps.toList.length = k := h.1
    have e4 : z.length = k := h.1
    rw [e3, e4]
    omega
  · unfold cutS at hc
    rw [List.toList_toArray] at hc
    exact List.mem_of_mem_drop (List.mem_of_mem_take hc)
theorem own_e : OwnS 1 "e" := ⟨rfl, by decide⟩
theorem own_s : OwnS 1 "s" := ⟨rfl, by decide⟩
theorem own_fold : ∀ (ys : List Str) (acc : Array Nat) (m : Nat), (∀ y ∈ ys, OwnS 1 y) → OwnS m ⟨acc⟩ →
    OwnS (m + ys.length) ⟨ys.foldl (fun acc p => acc ++ (Str.ofString "").cps ++ p.cps) acc⟩
  | [], acc, m, _, h => h
  | y :: r, acc, m, hy, h => by
    rw [List.foldl_cons, List.length_cons, show m + (r.length + 1) = (m + 1) + r.length by omega]
    refine own_fold r _ (m + 1) (fun z hz => hy z (List.mem_cons_of_mem _ hz)) ?_
    have e : (⟨acc ++ (Str.ofString "").cps ++ y.cps⟩ : Str) = (⟨acc⟩ : Str) ++ y := by
      show (⟨acc ++ #[] ++ y.cps⟩ : Str) = _
      rw [Array.append_empty]
      rfl
    rw [e]
    exact own_add h (hy y List.mem_cons_self)
theorem own_join {ys : List Str} (h : ∀ y ∈ ys, OwnS 1 y) : OwnS ys.length (Txt.join "" ys) := by
  cases ys with
  | nil => exact ⟨rfl, by decide⟩
  | cons y r =>
    have z := own_fold r y.cps 1 (fun z hz => h z (List.mem_cons_of_mem _ hz)) (h y List.mem_cons_self)
    rw [List.length_cons, Nat.add_comm]
    exact z
theorem own_sum {ys : List Str} (h : ∀ y ∈ ys, OwnS 1 y) : (ys.map (·.length)).sum = ys.length := by
  induction ys with
  | nil => rfl
  | cons y r ih =>
    rw [List.map_cons, List.sum_cons, ih fun z hz => h z (List.mem_cons_of_mem _ hz), (h y List.mem_cons_self).1, List.length_cons]
    omega
/-! ### + of texts, in -/
def rAddSt : R2 := fun x y H Q => ∃ i j, x = .str i ∧ y = .str j ∧ i.length + j.length ≤ sizeLine ∧ Q (.str (i ++ j)) H
theorem op_addSt {X : Cx} : OpR X (binaryOp .Add) rAddSt := op_add_str
section
variable {K : PySem.W.Frag} {H : Hp} {Q : VK} {a : Int} {p : Addr} {ns : List Int} {y z : Str}
theorem rd_addSt (hz : y.length + z.length ≤ sizeLine) (h : Q (.str (y ++ z)) H) : rAddSt (.str y) (.str z) H Q := ⟨y, z, rfl, rfl, hz, h⟩
theorem flat_ints : ∀ ns : List Int, (ns.map V.int).all flatV = true
  | [] => rfl
  | _ :: r => flat_ints r
theorem inV_ints (a : Int) : ∀ ns : List Int, inV (.int a) (ns.map V.int) = decide (a ∈ ns)
  | [] => rfl
  | n :: r => by
    show ((n == a) || inV (.int a) (r.map V.int)) = _
    rw [inV_ints a r]
    by_cases h : n = a
    · subst h
      simp
    · have h' : ¬ a = n := fun e => h e.symm
      have e1 : (n == a) = false := beq_eq_false_iff_ne.mpr h
      rw [e1, Bool.false_or]
      simp [h']
theorem rd_inT (s : SqT K H p (ns.map V.int)) (h : Q (.bl (decide (a ∈ ns))) H) : rIn K false (.int a) (.ref p) H Q :=
  ⟨p, ns.map V.int, rfl, .inr s, rfl, flat_ints ns, by rw [inV_ints]; exact h⟩
theorem rd_inL (s : SqL K H p (ns.map V.int)) (h : Q (.bl (decide (a ∈ ns))) H) : rIn K false (.int a) (.ref p) H Q :=
  ⟨p, ns.map V.int, rfl, .inl s, rfl, flat_ints ns, by rw [inV_ints]; exact h⟩
theorem rd_notInT (s : SqT K H p (ns.map V.int)) (h : Q (.bl (!decide (a ∈ ns))) H) : rIn K true (.int a) (.ref p) H Q :=
  ⟨p, ns.map V.int, rfl, .inr s, rfl, flat_ints ns, by rw [inV_ints]; exact h⟩
theorem rd_notInL (s : SqL K H p (ns.map V.int)) (h : Q (.bl (!decide (a ∈ ns))) H) : rIn K true (.int a) (.ref p) H Q :=
  ⟨p, ns.map V.int, rfl, .inl s, rfl, flat_ints ns, by rw [inV_ints]; exact h⟩
end
/-! ### join -/
def rJoin (K : PySem.W.Frag) : V → List V → Hp → VK → Prop := fun x xs H Q =>
  ∃ (a : Str) (p : Addr) (ys : List Str), x = .str a ∧ xs = [.ref p] ∧ (SqL K H p (ys.map V.str) ∨ SqT K H p (ys.map V.str)) ∧
    (ys.map (·.length)).sum + ys.length * a.length ≤ 16777216 ∧ Q (.str (Txt.join a ys)) H
section
variable {X : Cx} {o e : Expr} {to te : TE} {apos pos : Pos}
theorem pe_joinN (ho : PE X o to) (he : PE X e te) (hs : starEach [e] X.env = [(false, eval e X.env)] := by rfl)
    (hbase : attributeBase o "join" X.env (eval o X.env) = eval o X.env := by rfl) (hline : (apos.endLine == pos.line) = true := by rfl) :
    PE X (.Call (.Attribute o "join" apos) [e] [] pos) (tM1 (rJoin X.K) to te) := pe_join ho he hs hbase hline
end
section
variable {K : PySem.W.Frag} {σ : L2.St} {H : Hp} {Q : VK} {to te : TE} {r : V → List V → Hp → VK → Prop} {z : Str} {P : Prop}
theorem rd_m1 (h : to σ H fun x H1 => (∃ a, x = .str a) ∧ te σ H1 fun y H2 => r x [y] H2 Q) : tM1 r to te σ H Q := h
theorem rd_isS (h : P) : (∃ a, V.str z = .str a) ∧ P := ⟨⟨z, rfl⟩, h⟩
theorem rd_join {p : Addr} {ys : List Str} (s : SqL K H p (ys.map V.str)) (hz : (ys.map (·.length)).sum + ys.length * z.length ≤ 16777216) (h : Q (.str (Txt.join z ys)) H) : rJoin K (.str z) [.ref p] H Q :=
  ⟨z, p, ys, rfl, rfl, .inl s, hz, h⟩
theorem rd_mulS {n : Int} (h0 : 0 ≤ n) (h1 : n ≤ 1000) (h2 : z.length ≤ 1000) (h3 : 1 ≤ z.length) (h : Q (.str (repS z n)) H) : rMulS (.str z) (.int n) H Q := ⟨z, n, rfl, rfl, h0, h1, h2, h3, h⟩
theorem rd_addS {y : Str} (hz : y.length + z.length ≤ sizeLine) (h : Q (.str (y ++ z)) H) : (∃ i j, V.str y = .str i ∧ V.str z = .str j ∧ i.length + j.length ≤ sizeLine ∧ Q (.str (i ++ j)) H) := ⟨y, z, rfl, rfl, hz, h⟩
theorem rd_slS {lo hi : Option Int} (hz : z.length ≤ sizeLine) (h : Q (.str (cutS z lo hi)) H) : rSlS (.str z) lo hi H Q := ⟨z, rfl, hz, h⟩
end
end Ea
set_option Elab.async false
set_option linter.all false
set_option maxRecDepth 100000
set_option maxHeartbeats 4000000
/-! Slices, sums of tuples, sorted lists of ints, ranges as lists; rows of literals. -/
namespace Ea
open PySem PySem.Spec PyProof.Rows L2

/-! ### slices -/
theorem take_min {α : Type} (xs : List α) (k : Nat) : xs.take (min k xs.length) = xs.take k := by
  by_cases h : k ≤ xs.length
  · rw [Nat.min_eq_left h]
  · rw [Nat.min_eq_right (by omega), List.take_of_length_le (Nat.le_refl _), List.take_of_length_le (by omega)]
theorem drop_min {α : Type} (xs : List α) (k : Nat) : xs.drop (min k xs.length) = xs.drop k := by
  by_cases h : k ≤ xs.length
  · rw [Nat.min_eq_left h]
  · rw [Nat.min_eq_right (by omega), List.drop_of_length_le (Nat.le_refl _), List.drop_of_length_le (by omega)]
section
variable {ns : List Int} {xs : List V} {a b : Int}
theorem sIx_int (n e : Nat) (h : 0 ≤ a) : HT.sIx n e (some a) = min a.toNat n := by
  have z := HT.sIx_nat n e a.toNat
  rw [Int.toNat_of_nonneg h] at z
  exact z
theorem cut_take (h : 0 ≤ b) : cutV xs none (some b) = xs.take b.toNat := by
  unfold cutV
  rw [HT.sIx_none, sIx_int _ _ h, List.drop_zero, Nat.sub_zero, take_min]
theorem cut_drop (h : 0 ≤ a) : cutV xs (some a) none = xs.drop a.toNat := by
  unfold cutV
  rw [HT.sIx_none, sIx_int _ _ h, drop_min]
  exact List.take_of_length_le (by rw [List.length_drop]; omega)
theorem cut_mid (h : 0 ≤ a) (h2 : 0 ≤ b) : cutV xs (some a) (some b) = (xs.drop a.toNat).take (b.toNat - a.toNat) := by
  unfold cutV
  rw [sIx_int _ _ h, sIx_int _ _ h2, drop_min]
  by_cases c : b.toNat ≤ xs.length
  · rw [Nat.min_eq_left c]
    by_cases c2 : a.toNat ≤ xs.length
    · rw [Nat.min_eq_left c2]
    · rw [List.drop_of_length_le (by omega), List.take_nil, List.take_nil]
  · rw [Nat.min_eq_right (by omega)]
    by_cases c2 : a.toNat ≤ xs.length
    · rw [Nat.min_eq_left c2, List.take_of_length_le (by rw [List.length_drop]; omega), List.take_of_length_le (by rw [List.length_drop]; omega)]
    · rw [List.drop_of_length_le (by omega), List.take_nil, List.take_nil]
theorem cut_whole {lo hi : Option Int} (h : HT.sIx xs.length 0 lo = 0 ∧ HT.sIx xs.length xs.length hi = xs.length) : cutV xs lo hi = xs := by
  unfold cutV
  rw [h.1, h.2, List.drop_zero, Nat.sub_zero]
  exact List.take_of_length_le (Nat.le_refl _)
end
section
variable {d l : Addr} {K : PySem.W.Frag} {σ : L2.St} {H H' : Hp} {Q : VK} {p p2 : Addr} {xs ys : List V} {lo hi : Option Int} {ns : List Int} {a b : Int}
theorem Go.ex (e : Evl.Ex H H') (h : DeckB d l H) : Go d l H H' := by
  obtain ⟨ns, s, e1, e2, r⟩ := h
  exact ⟨⟨ns, s, e _ _ e1, e _ _ e2, r⟩, fun a o _ _ q => e a o q⟩
theorem rd_slT (s : SqT K H p xs) (h : ∀ (q : Addr) (H' : Hp), Evl.Ex H H' → SqT K H' q (cutV xs lo hi) → Q (.ref q) H') : rSlA K (.ref p) lo hi H Q :=
  ⟨p, xs, rfl, s, fun e => h p H (Evl.Ex.refl H) (by rw [cut_whole e]; exact s), fun _ q hq => h q _ (Evl.Ex.new hq) (SqT.of upd_same)⟩
theorem rd_slL (s : SqL K H p xs) (h : ∀ q, H q = none → Q (.ref q) (upd H q (.lst (cutV xs lo hi)))) : rSlL K (.ref p) lo hi H Q := ⟨p, xs, rfl, s, h⟩
theorem rd_catT (s : SqT K H p xs) (s2 : SqT K H p2 ys) (hz : xs.length + ys.length ≤ sizeLine)
    (h : ∀ (q : Addr) (H' : Hp), Evl.Ex H H' → SqT K H' q (xs ++ ys) → Q (.ref q) H') : rCatA K (.ref p) (.ref p2) H Q := by
  refine ⟨p, p2, xs, ys, rfl, rfl, s, s2, hz, fun e => ?_, fun _ e => ?_, fun _ _ q hq => h q _ (Evl.Ex.new hq) (SqT.of upd_same)⟩
  · subst e
    exact h p2 H (Evl.Ex.refl H) s2
  · subst e
    exact h p H (Evl.Ex.refl H) (by rw [List.append_nil]; exact s)
theorem rd_catL (s : H p = some (.lst xs)) (s2 : H p2 = some (.lst ys)) (hz : xs.length + ys.length ≤ sizeLine) (h : ∀ q, H q = none → Q (.ref q) (upd H q (.lst (xs ++ ys)))) : rCat (.ref p) (.ref p2) H Q :=
  ⟨p, p2, xs, ys, rfl, rfl, s, s2, hz, h⟩
theorem rd_sorted (s : SqL K H p (ns.map V.int)) (h : ∀ (ms : List Int) (q : Addr), ms.Perm ns → ms.Pairwise (· ≤ ·) → H q = none → Q (.ref q) (upd H q (.lst (ms.map V.int)))) : rSortedI K [.ref p] H Q :=
  ⟨p, ns, rfl, s, h⟩
def rgI (a b : Int) : List Int := (List.range (b - a).toNat).map fun i => a + (i : Nat)
theorem rgV_ints (a b : Int) : rgV a b = (rgI a b).map V.int := by
  unfold rgV rgI
  rw [List.map_map]
  rfl
theorem rd_listRg {te : L2.St → Hp → (Int → Int → Hp → Prop) → Prop} (h : te σ H fun a b H1 => RgOk a b ∧ ∀ q, H1 q = none → Q (.ref q) (upd H1 q (.lst (rgV a b)))) : tLstRg te σ H Q := h
theorem rd_rg2 {ta tb : TE} {R : Int → Int → Hp → Prop} (h : ta σ H fun x H1 => tb σ H1 fun y H2 => ∃ i j, x = .int i ∧ y = .int j ∧ R i j H2) : tRg2 ta tb σ H R := h
theorem rd_rgk {R : Int → Int → Prop} (h : R a b) : ∃ i j, V.int a = .int i ∧ V.int b = .int j ∧ R i j := ⟨a, b, rfl, rfl, h⟩
theorem rgI_mem {a b x : Int} : x ∈ rgI a b ↔ a ≤ x ∧ x < b := by
  unfold rgI
  rw [List.mem_map]
  constructor
  · rintro ⟨i, hi, rfl⟩
    have := List.mem_range.mp hi
    omega
  · rintro ⟨h1, h2⟩
    exact ⟨(x - a).toNat, List.mem_range.mpr (by omega), by omega⟩
theorem rgI_lt (a b : Int) : (rgI a b).Pairwise (· < ·) := by
  unfold rgI
  rw [List.pairwise_map]
  exact List.pairwise_lt_range.imp fun {i j} h => by omega
theorem rgI_length (a b : Int) : (rgI a b).length = (b - a).toNat := by
  unfold rgI
  rw [List.length_map, List.length_range]
end
theorem nodup_of_lt {ns : List Int} (h : ns.Pairwise (· < ·)) : ns.Nodup := h.imp fun {a b} q => by omega
theorem lt_of_sorted {ns : List Int} (h : ns.Pairwise (· ≤ ·)) (hn : ns.Nodup) : ns.Pairwise (· < ·) := by
  refine (h.and hn).imp fun {a b} q => ?_
  obtain ⟨q1, q2⟩ := q
  have q2 : a ≠ b := q2
  omega

/-! ### rows -/
/-- a clause of n letters -/
def Row (n : Nat) (ns : List Int) : Prop := ns.Pairwise (fun x y => x.natAbs < y.natAbs) ∧ ∀ x ∈ ns, 1 ≤ x.natAbs ∧ x.natAbs ≤ n
theorem Row.nil {n : Nat} : Row n [] := ⟨List.Pairwise.nil, nofun⟩
theorem Row.sub {n : Nat} {xs ys : List Int} (h : Row n ys) (s : xs.Sublist ys) : Row n xs := ⟨h.1.sublist s, fun x hx => h.2 x (s.subset hx)⟩
theorem Row.abs {n : Nat} {xs ys : List Int} (h : Row n ys) (e : xs.map Int.natAbs = ys.map Int.natAbs) : Row n xs := by
  have h1 : (ys.map Int.natAbs).Pairwise (· < ·) := by
    rw [List.pairwise_map]
    exact h.1
  rw [← e, List.pairwise_map] at h1
  refine ⟨h1, fun x hx => ?_⟩
  have : x.natAbs ∈ ys.map Int.natAbs := by
    rw [← e]
    exact List.mem_map_of_mem hx
  obtain ⟨y, hy, e2⟩ := List.mem_map.mp this
  rw [← e2]
  exact h.2 y hy
theorem Row.of_letters {n : Nat} {ns : List Int} (h : ns.Pairwise (· < ·)) (hm : ∀ x ∈ ns, 1 ≤ x ∧ x ≤ (n : Int)) : Row n ns := by
  refine ⟨?_, fun x hx => ?_⟩
  · refine List.Pairwise.imp_of_mem (fun {a b} ha hb q => ?_) h
    have := hm a ha
    have := hm b hb
    omega
  · have := hm x hx
    omega
theorem Row.length {n : Nat} : ∀ {ns : List Int}, Row n ns → ns.length ≤ n := by
  have key : ∀ (ns : List Int) (k : Nat), ns.Pairwise (fun x y => x.natAbs < y.natAbs) → (∀ x ∈ ns, k < x.natAbs ∧ x.natAbs ≤ n) → k ≤ n → ns.length + k ≤ n := by
    intro ns
    induction ns with
    | nil => intro k _ _ h; simpa using h
    | cons x r ih =>
      intro k hp hm hk
      obtain ⟨h1, h2⟩ := List.pairwise_cons.mp hp
      have hx := hm x List.mem_cons_self
      have z := ih x.natAbs h2 (fun y hy => ⟨h1 y hy, (hm y (List.mem_cons_of_mem _ hy)).2⟩) hx.2
      rw [List.length_cons]
      omega
  intro ns h
  have z := key ns 0 h.1 (fun x hx => ⟨by have := (h.2 x hx).1; omega, (h.2 x hx).2⟩) (Nat.zero_le _)
  omega
end Ea
set_option Elab.async false
set_option linter.all false
set_option maxHeartbeats 4000000
/-! Rows dropped, clashing and met: plain lists. -/
namespace Ea
/-- without what holds at the end -/
def dropTail (f : Int → Bool) (ns : List Int) : List Int := (ns.reverse.dropWhile f).reverse
theorem dropTail_nil (f : Int → Bool) : dropTail f [] = [] := rfl
theorem dropTail_snoc_pos {f : Int → Bool} {ns : List Int} {x : Int} (h : f x = true) : dropTail f (ns ++ [x]) = dropTail f ns := by
  unfold dropTail
  rw [List.reverse_append, List.reverse_singleton, List.singleton_append, List.dropWhile_cons, if_pos h]
theorem dropTail_snoc_neg {f : Int → Bool} {ns : List Int} {x : Int} (h : f x = false) : dropTail f (ns ++ [x]) = ns ++ [x] := by
  unfold dropTail
  rw [List.reverse_append, List.reverse_singleton, List.singleton_append, List.dropWhile_cons, if_neg (by rw [h]; decide), List.reverse_cons, List.reverse_reverse]
theorem take_snoc {ns : List Int} {k : Nat} (h : k < ns.length) : ns.take (k + 1) = ns.take k ++ [ns[k]] := by
  rw [List.take_add_one, List.getElem?_eq_getElem h]
  rfl
theorem dropTail_idem (f : Int → Bool) (ns : List Int) : dropTail f (dropTail f ns) = dropTail f ns := by
  rcases List.eq_nil_or_concat (dropTail f ns) with e | ⟨m, z, e⟩
  · rw [e]
    rfl
  · have e : dropTail f ns = m ++ [z] := by simpa using e
    rw [e]
    refine dropTail_snoc_neg ?_
    have h : ns.reverse.dropWhile f = z :: m.reverse := by
      have h2 := congrArg List.reverse e
      unfold dropTail at h2
      rw [List.reverse_reverse, List.reverse_append] at h2
      simpa using h2
    have h3 := List.head?_dropWhile_not f ns.reverse
    rw [h] at h3
    simpa using h3
theorem dropTail_sub (f : Int → Bool) (ns : List Int) : (dropTail f ns).Sublist ns := by
  have h : (ns.reverse.dropWhile f).Sublist ns.reverse := List.dropWhile_sublist f
  have h2 := h.reverse
  rw [List.reverse_reverse] at h2
  exact h2
/-- the greatest letter of the other party's -/
def lastOf (f : Int → Bool) (ns : List Int) : List Int := (ns.filter fun x => !f x).map fun x => (x.natAbs : Int)
theorem short_eq {n : Nat} {f : Int → Bool} {m : Int} : ∀ {ns : List Int}, Row n ns → (m ∈ lastOf f ns ++ [0]) → (∀ y ∈ lastOf f ns ++ [0], y ≤ m) →
    (ns.filter fun x => !f x || decide ((x.natAbs : Int) < m)) = dropTail f ns := by
  intro ns
  generalize hk : ns.length = k
  induction k generalizing ns with
  | zero =>
    intro _ _ _
    rw [List.length_eq_zero_iff.mp hk]
    rfl
  | succ k ih =>
    intro hr hm hb
    obtain ⟨r, x, e⟩ : ∃ r x, ns = r ++ [x] := by
      rcases List.eq_nil_or_concat ns with e | ⟨r, x, e⟩
      · rw [e] at hk
        cases hk
      · exact ⟨r, x, by simpa using e⟩
    subst e
    have hlt : ∀ y ∈ r, y.natAbs < x.natAbs := fun y hy => (List.pairwise_append.mp hr.1).2.2 y hy x List.mem_cons_self
    have hx1 := (hr.2 x (List.mem_append_right _ List.mem_cons_self)).1
    have hr' : Row n r := hr.sub (List.sublist_append_left _ _)
    rw [List.filter_append]
    cases hf : f x with
    | false =>
      rw [dropTail_snoc_neg hf]
      have e2 : ([x].filter fun x => !f x || decide ((x.natAbs : Int) < m)) = [x] := by simp [hf]
      rw [e2]
      have hxm : (x.natAbs : Int) ≤ m := hb _ (List.mem_append_left _ (by
        unfold lastOf
        exact List.mem_map.mpr ⟨x, List.mem_filter.mpr ⟨List.mem_append_right _ List.mem_cons_self, by rw [hf]; rfl⟩, rfl⟩))
      congr 1
      refine List.filter_eq_self.mpr fun y hy => ?_
      have := hlt y hy
      rw [Bool.or_eq_true]
      exact .inr (decide_eq_true (by omega))
    | true =>
      rw [dropTail_snoc_pos hf]
      have el : lastOf f (r ++ [x]) = lastOf f r := by
        unfold lastOf
        rw [List.filter_append]
        have : ([x].filter fun x => !f x) = [] := by simp [hf]
        rw [this, List.append_nil]
      rw [el] at hm hb
      have hxm : ¬ (x.natAbs : Int) < m := by
        rcases List.mem_append.mp hm with h | h
        · obtain ⟨y, hy, e⟩ := List.mem_map.mp h
          have := hlt y (List.mem_filter.mp hy).1
          omega
        · rw [List.mem_singleton.mp h]
          omega
      have e2 : ([x].filter fun x => !f x || decide ((x.natAbs : Int) < m)) = [] := by simp [hf, hxm]
      rw [e2, List.append_nil]
      refine ih (ns := r) ?_ hr' hm hb
      rw [List.length_append, List.length_singleton] at hk
      omega

/-! ### letters in which rows clash -/
def against (one other : List Int) : List Int := (one.filter fun x => decide (-x ∈ other)).map fun x => (x.natAbs : Int)
theorem against_mem {one other : List Int} {k : Int} : k ∈ against one other ↔ ∃ x ∈ one, -x ∈ other ∧ (x.natAbs : Int) = k := by
  unfold against
  rw [List.mem_map]
  constructor
  · rintro ⟨x, hx, e⟩
    have h := List.mem_filter.mp hx
    exact ⟨x, h.1, of_decide_eq_true h.2, e⟩
  · rintro ⟨x, hx, h, e⟩
    exact ⟨x, List.mem_filter.mpr ⟨hx, decide_eq_true h⟩, e⟩
theorem against_lt {n : Nat} {one other : List Int} (h : Row n one) : (against one other).Pairwise (· < ·) := by
  unfold against
  rw [List.pairwise_map]
  exact (h.1.sublist List.filter_sublist).imp fun {a b} q => by omega
theorem eq_of_lt : ∀ {xs ys : List Int}, xs.Pairwise (· < ·) → ys.Pairwise (· < ·) → (∀ x, x ∈ xs ↔ x ∈ ys) → xs = ys
  | [], [], _, _, _ => rfl
  | [], y :: r, _, _, h => absurd ((h y).mpr List.mem_cons_self) nofun
  | x :: r, [], _, _, h => absurd ((h x).mp List.mem_cons_self) nofun
  | x :: r, y :: t, h1, h2, h => by
    obtain ⟨a1, a2⟩ := List.pairwise_cons.mp h1
    obtain ⟨b1, b2⟩ := List.pairwise_cons.mp h2
    have e : x = y := by
      rcases List.mem_cons.mp ((h x).mp List.mem_cons_self) with e | e
      · exact e
      · rcases List.mem_cons.mp ((h y).mpr List.mem_cons_self) with e2 | e2
        · exact e2.symm
        · have := a1 y e2
          have := b1 x e
          omega
    subst e
    congr 1
    refine eq_of_lt a2 b2 fun z => ⟨fun hz => ?_, fun hz => ?_⟩
    · rcases List.mem_cons.mp ((h z).mp (List.mem_cons_of_mem _ hz)) with e | e
      · have := a1 z hz
        omega
      · exact e
    · rcases List.mem_cons.mp ((h z).mpr (List.mem_cons_of_mem _ hz)) with e | e
      · have := b1 z hz
        omega
      · exact e
theorem against_comm {n m : Nat} {one other : List Int} (h1 : Row n one) (h2 : Row m other) : against other one = against one other := by
  refine eq_of_lt (against_lt h2) (against_lt h1) fun k => ?_
  rw [against_mem, against_mem]
  constructor
  · rintro ⟨x, hx, hn, e⟩
    exact ⟨-x, hn, by rw [Int.neg_neg]; exact hx, by omega⟩
  · rintro ⟨x, hx, hn, e⟩
    exact ⟨-x, hn, by rw [Int.neg_neg]; exact hx, by omega⟩
theorem against_pos {n : Nat} {one other : List Int} (h : Row n one) {k : Int} (hk : k ∈ against one other) : 1 ≤ k ∧ k ≤ n := by
  obtain ⟨x, hx, _, e⟩ := against_mem.mp hk
  have := h.2 x hx
  omega

/-! ### rows that meet -/
def IsJoin (one other r : List Int) : Prop := r.Pairwise (fun x y => x.natAbs < y.natAbs) ∧ ∀ x, x ∈ r ↔ (x ∈ one ∨ x ∈ other) ∧ (x.natAbs : Int) ∉ against one other
theorem eq_of_asc : ∀ {xs ys : List Int}, xs.Pairwise (fun x y => x.natAbs < y.natAbs) → ys.Pairwise (fun x y => x.natAbs < y.natAbs) → (∀ x, x ∈ xs ↔ x ∈ ys) → xs = ys
  | [], [], _, _, _ => rfl
  | [], y :: r, _, _, h => absurd ((h y).mpr List.mem_cons_self) nofun
  | x :: r, [], _, _, h => absurd ((h x).mp List.mem_cons_self) nofun
  | x :: r, y :: t, h1, h2, h => by
    obtain ⟨a1, a2⟩ := List.pairwise_cons.mp h1
    obtain ⟨b1, b2⟩ := List.pairwise_cons.mp h2
    have e : x = y := by
      rcases List.mem_cons.mp ((h x).mp List.mem_cons_self) with e | e
      · exact e
      · rcases List.mem_cons.mp ((h y).mpr List.mem_cons_self) with e2 | e2
        · exact e2.symm
        · have := a1 y e2
          have := b1 x e
          omega
    subst e
    congr 1
    refine eq_of_asc a2 b2 fun z => ⟨fun hz => ?_, fun hz => ?_⟩
    · rcases List.mem_cons.mp ((h z).mp (List.mem_cons_of_mem _ hz)) with e | e
      · have := a1 z hz
        rw [e] at this
        omega
      · exact e
    · rcases List.mem_cons.mp ((h z).mpr (List.mem_cons_of_mem _ hz)) with e | e
      · have := b1 z hz
        rw [e] at this
        omega
      · exact e
theorem IsJoin.eq {one other r t : List Int} (h1 : IsJoin one other r) (h2 : IsJoin one other t) : r = t :=
  eq_of_asc h1.1 h2.1 fun x => (h1.2 x).trans (h2.2 x).symm
theorem IsJoin.comm {n m : Nat} {one other r : List Int} (a : Row n one) (b : Row m other) (h : IsJoin other one r) : IsJoin one other r :=
  ⟨h.1, fun x => by rw [h.2 x, against_comm a b, or_comm]⟩
theorem IsJoin.row {n : Nat} {one other r : List Int} (a : Row n one) (b : Row n other) (h : IsJoin one other r) : Row n r :=
  ⟨h.1, fun x hx => ((h.2 x).mp hx).1.elim (a.2 x) (b.2 x)⟩
/-- literals of one letter in both are the same, where they do not clash in it -/
theorem same_of {n : Nat} {one other : List Int} (a : Row n one) (b : Row n other) {x y : Int} (hx : x ∈ one ∨ x ∈ other) (hy : y ∈ one ∨ y ∈ other) (e : x.natAbs = y.natAbs)
    (hn : (x.natAbs : Int) ∉ against one other) : x = y := by
  have key : ∀ {xs : List Int}, Row n xs → x ∈ xs → y ∈ xs → x = y := fun {xs} h h1 h2 => by
    obtain ⟨i, hi, e1⟩ := List.mem_iff_getElem.mp h1
    obtain ⟨j, hj, e2⟩ := List.mem_iff_getElem.mp h2
    have hp := List.pairwise_iff_getElem.mp h.1
    rcases Nat.lt_trichotomy i j with q | q | q
    · have := hp i j hi hj q
      rw [e1, e2] at this
      omega
    · subst q
      rw [← e1, ← e2]
    · have := hp j i hj hi q
      rw [e1, e2] at this
      omega
  have opp : x = y ∨ y = -x := by omega
  rcases opp with q | q
  · exact q
  · subst q
    rcases hx with hx | hx <;> rcases hy with hy | hy
    · exact key a hx hy
    · exact absurd (against_mem.mpr ⟨x, hx, hy, rfl⟩) hn
    · exact absurd (against_mem.mpr ⟨-x, hy, by rw [Int.neg_neg]; exact hx, by omega⟩) hn
    · exact key b hx hy
end Ea
set_option Elab.async false
set_option linter.all false
set_option maxRecDepth 100000
set_option maxHeartbeats 4000000
/-! Comprehensions over ints where nothing is changed; greatest, texts' places. -/
namespace Ea
open PySem PySem.Spec PyProof.Rows L2
section
variable {K : PySem.W.Frag} {σ : L2.St} {H : Hp} {Q : VK} {tt : TT} {te : TE} {vs : List Nat} {j : Nat} {σx : V → L2.St} {a : Addr} {ns : List Int} {f : Int → Bool} {g : Int → V}
/-- a turn: f tells whether x gives, g what -/
abbrev TurnF (H : Hp) (tt : TT) (te : TE) (σx : V → L2.St) (f : Int → Bool) (g : Int → V) (x : Int) : Prop :=
  ∀ (H' : Hp) (N : VK) (S : Hp → Prop), Evl.Ex H H' → (f x = true → ∀ H3, Evl.Ex H' H3 → N (g x) H3) → (f x = false → ∀ H3, Evl.Ex H' H3 → S H3) →
    tt (σx (.int x)) H' fun b H2 => if b = true then te (σx (.int x)) H2 N else S H2
def Cf (H : Hp) (ns : List Int) (f : Int → Bool) (g : Int → V) (D : Addr) (i : Nat) (H' : Hp) : Prop :=
  H D = none ∧ Evl.Ex H H' ∧ H' D = some (.lst (((ns.take i).filter f).map g))
theorem cf_turn {D : Addr} {i : Nat} {x : Int} {H' : Hp} (hi : ns[i]? = some x) (hz : ns.length ≤ 40000) (ht : TurnF H tt te σx f g x) (p : Cf H ns f g D i H') :
    tt (σx (.int x)) H' fun b H3 => if b = true then te (σx (.int x)) H3 fun y H4 => ∃ acc, H4 D = some (.lst acc) ∧ acc.length < sizeLine ∧ Cf H ns f g D (i + 1) (upd H4 D (.lst (acc ++ [y]))) else Cf H ns f g D (i + 1) H3 := by
  obtain ⟨e, ex, ea⟩ := p
  have hl : ((((ns.take i).filter f).map g)).length < 100000 := by
    rw [List.length_map]
    have h1 := List.length_filter_le f (ns.take i)
    have h2 := List.length_take_le i ns
    have h3 := List.length_take (i := i) (l := ns)
    omega
  refine ht H' _ _ ex (fun hf H3 e3 => ?_) fun hf H3 e3 => ?_
  · refine ⟨_, e3 D _ ea, Evl.sz_lt hl, e, Evl.Ex.mut (ex.trans e3) e, ?_⟩
    rw [upd_same, List.take_add_one, hi, List.filter_append, List.map_append]
    have : ((some x).toList.filter f) = [x] := by simp [hf]
    rw [this] <;> rfl
  · refine ⟨e, ex.trans e3, ?_⟩
    rw [List.take_add_one, hi, List.filter_append]
    have : ((some x).toList.filter f) = [] := by simp [hf]
    rw [this, List.append_nil]
    exact e3 D _ ea
theorem lc_fmT (f : Int → Bool) (g : Int → V) (hx : SqT K H a (ns.map V.int)) (hz : ns.length ≤ 40000) (hσ : ∀ x, (wipe σ vs).set j (some x) = σx x) (hw : ∀ x, wipe (σx x) vs = wipe σ vs)
    (hs : ∀ x ∈ ns, TurnF H tt te σx f g x)
    (hd : ∀ D H', Evl.Ex H H' → H D = none → H' D = some (.lst ((ns.filter f).map g)) → Q (.ref D) H') : LcR (gName j) tt te vs σ Q (Itt K a) H := fun D hn =>
  lc_tup (xs := ns.map V.int) (Cf H ns f g D) ⟨hn, Evl.Ex.new hn, upd_same⟩ (fun i H' _ ⟨_, ex, _⟩ => Evl.ex_t ex hx) (fun i x H' hi p => by
    rw [List.getElem?_map] at hi
    obtain ⟨y, hy, rfl⟩ := Option.map_eq_some_iff.mp hi
    rw [show gName j (.int y) (wipe σ vs) H' = fun N => N (σx (.int y)) H' from funext fun N => by rw [← hσ (.int y)] <;> rfl]
    exact ⟨hw _, cf_turn hy hz (hs y (List.mem_of_getElem? hy)) p⟩) fun H' p => by
    obtain ⟨e, ex, ea⟩ := p
    rw [List.length_map, List.take_of_length_le (Nat.le_refl _)] at ea
    exact hd D H' ex e ea
theorem lc_fmL (f : Int → Bool) (g : Int → V) (hx : SqL K H a (ns.map V.int)) (hz : ns.length ≤ 40000) (hσ : ∀ x, (wipe σ vs).set j (some x) = σx x) (hw : ∀ x, wipe (σx x) vs = wipe σ vs)
    (hs : ∀ x ∈ ns, TurnF H tt te σx f g x)
    (hd : ∀ D H', Evl.Ex H H' → H D = none → H' D = some (.lst ((ns.filter f).map g)) → Q (.ref D) H') : LcR (gName j) tt te vs σ Q (Itl K a) H := fun D hn =>
  lc_list (xs := ns.map V.int) (Cf H ns f g D) ⟨hn, Evl.Ex.new hn, upd_same⟩ (fun i H' _ ⟨_, ex, _⟩ => Evl.ex_l ex hx) (fun i x H' hi p => by
    rw [List.getElem?_map] at hi
    obtain ⟨y, hy, rfl⟩ := Option.map_eq_some_iff.mp hi
    rw [show gName j (.int y) (wipe σ vs) H' = fun N => N (σx (.int y)) H' from funext fun N => by rw [← hσ (.int y)] <;> rfl]
    exact ⟨hw _, cf_turn hy hz (hs y (List.mem_of_getElem? hy)) p⟩) fun H' p => by
    obtain ⟨e, ex, ea⟩ := p
    rw [List.length_map, List.take_of_length_le (Nat.le_refl _)] at ea
    exact hd D H' ex e ea
theorem rd_maxL {m : List Int} (s : SqL K H a (m.map V.int)) (h0 : 0 < m.length) (h : ∀ x, x ∈ m → (∀ y, y ∈ m → y ≤ x) → Q (.int x) H) : rMax K [.ref a] H Q := ⟨a, m, rfl, s, h0, h⟩
end
theorem rd_iteC {p : Prop} {_ : Decidable p} {σ : L2.St} {H : Hp} {Q : VK} {u v x : V} (e1 : p → u = x) (e2 : ¬ p → v = x) (h : Q x H) : if decide p = true then tC u σ H Q else tC v σ H Q := by
  by_cases c : p
  · rw [if_pos (decide_eq_true c), e1 c]
    exact h
  · rw [if_neg (by rw [decide_eq_true_eq]; exact c), e2 c]
    exact h
theorem bor_l {a b : Bool} (h : a = true) : (a || b) = true := by rw [h, Bool.true_or]
theorem bor_r {a b : Bool} (h : b = true) : (a || b) = true := by rw [h, Bool.or_true]
theorem bor_f {a b : Bool} (h : a = false) (h2 : b = false) : (a || b) = false := by rw [h, h2, Bool.or_false]
/-- the sign of a literal's letter -/
def sgn (z : Str) (x : Int) : Nat := z.cps.toList.getD (x.natAbs - 1) 0
def heldBy (z h : Str) (x : Int) : Bool := decide (V.str ⟨#[sgn z x]⟩ = V.str h)
theorem at_sgn {n : Nat} {z : Str} {x : Int} (h : OwnS n z) (h1 : 1 ≤ x.natAbs) (h2 : x.natAbs ≤ n) : atI z.cps.toList ((x.natAbs : Int) - 1) = some (sgn z x) := by
  have e : (x.natAbs : Int) - 1 = ((x.natAbs - 1 : Nat) : Int) := by omega
  have hl : x.natAbs - 1 < z.cps.toList.length := by
    have : z.cps.toList.length = n := h.1
    omega
  rw [e]
  refine atI_nat ?_
  unfold sgn
  rw [List.getElem?_eq_getElem hl, List.getD_eq_getElem?_getD, List.getElem?_eq_getElem hl]
  rfl
end Ea
set_option Elab.async false
set_option linter.all false
set_option maxRecDepth 100000
set_option maxHeartbeats 4000000
/-! Loops over tuples; dicts of literals by their letters. -/
namespace Ea
open PySem PySem.Spec PyProof.Rows L2

/-! ### a for, by its iterator -/
def ForR (g : TG) (tb : TS) (D : Ends) (σ : L2.St) (J : It) (H1 : Hp) : Prop :=
  ∃ W : Nat → Nat → L2.St → Hp → Prop, (∃ m, W 0 m σ H1) ∧ ∀ i m σ H, W i m σ H →
    (J.stop i H ∧ D.nx σ H) ∨
    (J.go i H ∧ ∃ N : L2.St → Hp → Prop, (∀ σ' H', N σ' H' → ∃ m', m' < m ∧ W (i + 1) m' σ' H') ∧
      ∀ x H', J.yld i H x H' → g x σ H' fun σ2 H2 => tb { D with nx := N, ct := N, bk := D.nx } σ2 H2)
section
variable {K : PySem.W.Frag} {σ : L2.St} {H : Hp} {g : TG} {tb : TS} {D : Ends} {wi : TI} {a : Addr} {xs : List V} {j : Nat}
theorem rd_for (h : wi σ H (ForR g tb D σ)) : tFor wi g tb D σ H := h
theorem fr_tup (Pv : Nat → L2.St → Hp → Prop) (h0 : Pv 0 σ H) (hl : ∀ i σ H, i ≤ xs.length → Pv i σ H → SqT K H a xs)
    (hs : ∀ i x σ H, xs[i]? = some x → Pv i σ H → tb { D with nx := Pv (i + 1), ct := Pv (i + 1), bk := D.nx } (σ.set j (some x)) H) (hd : ∀ σ H, Pv xs.length σ H → D.nx σ H) :
    ForR (gName j) tb D σ (Itt K a) H := for_tup Pv h0 hl (fun i x σ H hi p => hs i x σ H hi p) hd
theorem fr_list (Pv : Nat → L2.St → Hp → Prop) (h0 : Pv 0 σ H) (hl : ∀ i σ H, i ≤ xs.length → Pv i σ H → SqL K H a xs)
    (hs : ∀ i x σ H, xs[i]? = some x → Pv i σ H → tb { D with nx := Pv (i + 1), ct := Pv (i + 1), bk := D.nx } (σ.set j (some x)) H) (hd : ∀ σ H, Pv xs.length σ H → D.nx σ H) :
    ForR (gName j) tb D σ (Itl K a) H := for_list Pv h0 hl (fun i x σ H hi p => hs i x σ H hi p) hd
theorem fr_range {lo : Int} {n : Nat} (Pv : Nat → L2.St → Hp → Prop) (h0 : Pv 0 σ H)
    (hs : ∀ i σ H, i < n → Pv i σ H → tb { D with nx := Pv (i + 1), ct := Pv (i + 1), bk := D.nx } (σ.set j (some (.int (lo + i)))) H) (hd : ∀ σ H, Pv n σ H → D.nx σ H) :
    ForR (gName j) tb D σ (Itr lo n) H := for_range Pv h0 (fun i σ H hi p => hs i σ H hi p) hd
end

theorem rd_dnew {σ : L2.St} {H : Hp} {Q : VK} (h : ∀ p, H p = none → Q (.ref p) (upd H p (.dK []))) : tDNewK σ H Q := h
theorem rd_gtup2 {K : PySem.W.Frag} {σ σ' : L2.St} {H : Hp} {p : Addr} {x y : V} {n i j : Nat} {N : L2.St → Hp → Prop} (s : SqT K H p [x, y]) (hn : n = 2) (hs : (σ.set i (some x)).set j (some y) = σ') (h : N σ' H) :
    gTup K n (gCons (gName i) (gCons (gName j) gNil)) (.ref p) σ H N := ⟨p, [x, y], rfl, s, hn.symm, x, [y], rfl, y, [], rfl, rfl, by subst hs; exact h⟩
/-! ### sorted of a dict by its keys -/
def rSortD : List V → Hp → VK → Prop := fun xs H Q => ∃ (a : Addr) (kvs : List (Key × V)) (ks : List Int), xs = [.ref a] ∧ Rd H a (.dK kvs) ∧ kvs.map (·.1) = ks.map Sum.inl ∧ ks.length < 64 ∧
  ∀ (ys : List Int) (p : Addr), ys.Perm ks → ys.Pairwise (· ≤ ·) → H p = none → Q (.ref p) (upd H p (.lst (ys.map V.int)))
theorem c_sortedD {X : Cx} (h : X.calm = true) : CallR X (.builtin "sorted") rSortD := call_sortedDI h
theorem rd_sortD {H : Hp} {Q : VK} {a : Addr} {kvs : List (Key × V)} {ks : List Int} (h : H a = some (.dK kvs)) (e : kvs.map (·.1) = ks.map Sum.inl) (hl : ks.length < 64)
    (q : ∀ (ys : List Int) (p : Addr), ys.Perm ks → ys.Pairwise (· ≤ ·) → H p = none → Q (.ref p) (upd H p (.lst (ys.map V.int)))) : rSortD [.ref a] H Q := ⟨a, kvs, ks, rfl, .inl h, e, hl, q⟩

/-! ### a dict of literals by letters -/
abbrev lk (x : Int) : Key := Sum.inl (x.natAbs : Int)
structure Dic (ws : List Int) (kvs : List (Key × V)) : Prop where
  ks : ∃ ks : List Int, kvs.map (·.1) = ks.map Sum.inl ∧ ks.Nodup ∧ ∀ k, k ∈ ks ↔ ∃ x ∈ ws, (x.natAbs : Int) = k
  val : ∀ k : Int, (∃ x ∈ ws, (x.natAbs : Int) = k) → ∃ x ∈ ws, (x.natAbs : Int) = k ∧ valV kvs (.inl k) = some (.int x)
  len : kvs.length ≤ ws.length
theorem Dic.nil : Dic [] [] := by
  refine ⟨⟨[], rfl, List.nodup_nil, fun k => ⟨fun h => (nomatch h), ?_⟩⟩, ?_, Nat.le_refl _⟩
  · rintro ⟨x, h, _⟩
    cases h
  · rintro k ⟨x, h, _⟩
    cases h
theorem keys_put {kvs : List (Key × V)} {k : Key} {v : V} : (putK kvs k v).map (·.1) = if (kvs.any fun kv => decide (kv.1 = k)) = true then kvs.map (·.1) else kvs.map (·.1) ++ [k] := by
  unfold putK
  split
  · rw [List.map_map]
    refine List.map_congr_left fun p _ => ?_
    show (if p.1 = k then (p.1, v) else p).1 = p.1
    split <;> rfl
  · rw [List.map_append]
    rfl
theorem any_key {kvs : List (Key × V)} {k : Key} : (kvs.any fun kv => decide (kv.1 = k)) = true ↔ k ∈ kvs.map (·.1) := by
  rw [List.any_eq_true, List.mem_map]
  constructor
  · rintro ⟨p, hp, e⟩
    exact ⟨p, hp, of_decide_eq_true e⟩
  · rintro ⟨p, hp, e⟩
    exact ⟨p, hp, decide_eq_true e⟩
theorem Dic.put {ws : List Int} {kvs : List (Key × V)} (h : Dic ws kvs) (x : Int) : Dic (ws ++ [x]) (putK kvs (lk x) (.int x)) := by
  obtain ⟨⟨ks, e, nd, hm⟩, hv, hl⟩ := h
  refine ⟨?_, fun k hk => ?_, ?_⟩
  · rw [keys_put]
    by_cases c : (kvs.any fun kv => decide (kv.1 = lk x)) = true
    · rw [if_pos c]
      have hx : (x.natAbs : Int) ∈ ks := by
        have z := any_key.mp c
        rw [e] at z
        obtain ⟨k, hk, e2⟩ := List.mem_map.mp z
        cases e2
        exact hk
      refine ⟨ks, e, nd, fun k => ⟨fun hk => ?_, fun ⟨y, hy, e2⟩ => ?_⟩⟩
      · obtain ⟨y, hy, e2⟩ := (hm k).mp hk
        exact ⟨y, List.mem_append_left _ hy, e2⟩
      · rcases List.mem_append.mp hy with hy | hy
        · exact (hm k).mpr ⟨y, hy, e2⟩
        · rw [List.mem_singleton.mp hy] at e2
          rw [← e2]
          exact hx
    · rw [if_neg c]
      have hx : (x.natAbs : Int) ∉ ks := fun hx => c (any_key.mpr (by rw [e]; exact List.mem_map_of_mem hx))
      refine ⟨ks ++ [(x.natAbs : Int)], by rw [e, List.map_append] <;> rfl, ?_, fun k => ⟨fun hk => ?_, fun ⟨y, hy, e2⟩ => ?_⟩⟩
      · rw [List.nodup_append]
        exact ⟨nd, by simp, fun a ha b hb => by rw [List.mem_singleton.mp hb]; exact fun q => hx (q ▸ ha)⟩
      · rcases List.mem_append.mp hk with hk | hk
        · obtain ⟨y, hy, e2⟩ := (hm k).mp hk
          exact ⟨y, List.mem_append_left _ hy, e2⟩
        · exact ⟨x, List.mem_append_right _ List.mem_cons_self, (List.mem_singleton.mp hk).symm⟩
      · rcases List.mem_append.mp hy with hy | hy
        · exact List.mem_append_left _ ((hm k).mpr ⟨y, hy, e2⟩)
        · rw [List.mem_singleton.mp hy] at e2
          exact List.mem_append_right _ (by rw [← e2]; exact List.mem_cons_self)
  · rw [valV_put]
    by_cases c : (Sum.inl k : Key) = lk x
    · rw [if_pos c]
      have c2 : k = (x.natAbs : Int) := Sum.inl.inj c
      exact ⟨x, List.mem_append_right _ List.mem_cons_self, c2.symm, rfl⟩
    · rw [if_neg c]
      obtain ⟨y, hy, e2⟩ := hk
      have hy' : y ∈ ws := by
        rcases List.mem_append.mp hy with hy | hy
        · exact hy
        · rw [List.mem_singleton.mp hy] at e2
          exact absurd (congrArg Sum.inl e2.symm) c
      obtain ⟨z, hz, e3, e4⟩ := hv k ⟨y, hy', e2⟩
      exact ⟨z, List.mem_append_left _ hz, e3, e4⟩
  · have h1 := congrArg List.length (keys_put (kvs := kvs) (k := lk x) (v := .int x))
    rw [List.length_map] at h1
    rw [h1, List.length_append, List.length_singleton]
    split
    · rw [List.length_map]
      omega
    · rw [List.length_append, List.length_map, List.length_singleton]
      omega
/-- the literal that a dict has for a letter -/
def litOf (kvs : List (Key × V)) (k : Int) : Int := match valV kvs (.inl k) with
  | some (.int x) => x
  | _ => 0
theorem Dic.lit {ws : List Int} {kvs : List (Key × V)} (h : Dic ws kvs) {k : Int} (hk : ∃ x ∈ ws, (x.natAbs : Int) = k) :
    valV kvs (.inl k) = some (.int (litOf kvs k)) ∧ litOf kvs k ∈ ws ∧ ((litOf kvs k).natAbs : Int) = k := by
  obtain ⟨x, hx, e, hv⟩ := h.val k hk
  have : litOf kvs k = x := by
    unfold litOf
    rw [hv]
  rw [this]
  exact ⟨hv, hx, e⟩
theorem Dic.join {n : Nat} {one other : List Int} {kvs : List (Key × V)} (h : Dic (one ++ other) kvs) (a : Row n one) (b : Row n other) {ys : List Int} (so : ys.Pairwise (· < ·))
    (hy : ∀ k, k ∈ ys ↔ (∃ x ∈ one ++ other, (x.natAbs : Int) = k) ∧ k ∉ against one other) : IsJoin one other (ys.map (litOf kvs)) := by
  have hl : ∀ k ∈ ys, litOf kvs k ∈ one ++ other ∧ ((litOf kvs k).natAbs : Int) = k := fun k hk => (h.lit ((hy k).mp hk).1).2
  refine ⟨?_, fun x => ⟨fun hx => ?_, fun ⟨hx, hn⟩ => ?_⟩⟩
  · rw [List.pairwise_map]
    refine List.Pairwise.imp_of_mem (fun {p q} hp hq hlt => ?_) so
    have h1 := (hl p hp).2
    have h2 := (hl q hq).2
    omega
  · obtain ⟨k, hk, rfl⟩ := List.mem_map.mp hx
    obtain ⟨h1, h2⟩ := hl k hk
    exact ⟨List.mem_append.mp h1, by rw [h2]; exact ((hy k).mp hk).2⟩
  · have hk : (x.natAbs : Int) ∈ ys := (hy _).mpr ⟨⟨x, List.mem_append.mpr hx, rfl⟩, hn⟩
    obtain ⟨h1, h2⟩ := hl _ hk
    refine List.mem_map.mpr ⟨_, hk, ?_⟩
    exact (same_of a b hx (List.mem_append.mp h1) (by omega) hn).symm
theorem valV_drop {kvs : List (Key × V)} {k j : Key} (h : j ≠ k) : valV (dropK kvs k) j = valV kvs j := by
  induction kvs with
  | nil => rfl
  | cons p r ih =>
    by_cases e : p.1 = k
    · rw [dropK_pos e, ih, valV_neg (fun z => h (z.symm.trans e))]
    · rw [dropK_neg e]
      by_cases e2 : p.1 = j
      · rw [valV_pos e2, valV_pos e2]
      · rw [valV_neg e2, valV_neg e2, ih]
theorem keys_drop {kvs : List (Key × V)} {ks : List Int} {c : Int} (h : kvs.map (·.1) = ks.map Sum.inl) : (dropK kvs (.inl c)).map (·.1) = (ks.filter fun k => decide (k ≠ c)).map Sum.inl := by
  induction kvs generalizing ks with
  | nil =>
    cases ks with
    | nil => rfl
    | cons k r => cases h
  | cons p r ih =>
    cases ks with
    | nil => cases h
    | cons k t =>
      have h1 : p.1 = Sum.inl k := (List.cons.inj h).1
      have h2 := ih (List.cons.inj h).2
      by_cases e : k = c
      · subst e
        rw [dropK_pos h1, h2]
        simp
      · have e1 : ¬ p.1 = Sum.inl c := fun z => e (Sum.inl.inj (h1.symm.trans z))
        rw [dropK_neg e1, List.map_cons, h2, h1]
        simp [e]
theorem dK_not {kvs : List (Key × V)} : ∀ zs : List V, HO.dK kvs ≠ .tup zs ∧ ∀ f, HO.dK kvs ≠ .frz f (.tup zs) := fun zs => ⟨fun h => (by cases h), fun f h => (by cases h)⟩
theorem lst_not {ys : List V} : ∀ zs : List V, HO.lst ys ≠ .tup zs ∧ ∀ f, HO.lst ys ≠ .frz f (.tup zs) := fun zs => ⟨fun h => (by cases h), fun f h => (by cases h)⟩
theorem tup_upd {K : PySem.W.Frag} {H : Hp} {p a : Addr} {o u : HO} {xs : List V} (h : H p = some o) (hn : ∀ zs, o ≠ .tup zs ∧ ∀ f, o ≠ .frz f (.tup zs)) (s : SqT K H a xs) : SqT K (upd H p u) a xs := by
  rcases s with (s | ⟨f, s⟩) | s
  · refine .inl (.inl ?_)
    rw [upd_ne (ne_of s h fun e => (hn xs).1 e.symm)]
    exact s
  · refine .inl (.inr ⟨f, ?_⟩)
    rw [upd_ne (ne_of s h fun e => (hn xs).2 f e.symm)]
    exact s
  · exact .inr s
theorem nodup_le : ∀ {n : Nat} {ks : List Int}, ks.Nodup → (∀ k ∈ ks, 1 ≤ k ∧ k ≤ (n : Int)) → ks.length ≤ n
  | 0, ks, _, hm => by
    cases ks with
    | nil => exact Nat.le_refl _
    | cons k r =>
      have := hm k List.mem_cons_self
      omega
  | n + 1, ks, h, hm => by
    have h1 : (ks.erase ((n + 1 : Nat) : Int)).length ≤ n := nodup_le (h.erase _) fun k hk => by
      obtain ⟨a, b⟩ := (List.Nodup.mem_erase_iff h).mp hk
      have := hm k b
      omega
    have h2 := List.length_erase (a := ((n + 1 : Nat) : Int)) (l := ks)
    split at h2 <;> omega
section
variable {X : Cx} {st : List Stmt} {t : TS} {p : Prop}
theorem pss_guard (h : p → PSs X st t) : PSs X st (fun D σ H => p ∧ t D σ H) := ⟨fun pins s σ H D I hq => (h hq.1).run pins s σ H D I hq.2⟩
end
end Ea
set_option Elab.async false
set_option linter.all false
set_option maxRecDepth 100000
set_option maxHeartbeats 400000
/-! Dict comprehensions of literals; own errors' facts; data that stays. -/
namespace Ea
open PySem PySem.Spec PyProof.Rows L2

def DcR (g : TG) (tt : TT) (tk tv : TE) (vs : List Nat) (σ : L2.St) (Q : VK) (J : It) (H1 : Hp) : Prop :=
  ∀ D, H1 D = none → ∃ W : Nat → Nat → Hp → Prop, (∃ m, W 0 m (upd H1 D (.dK []))) ∧ ∀ i m H, W i m H →
    (J.stop i H ∧ Q (.ref D) H) ∨
    (J.go i H ∧ ∃ Nx : Hp → Prop, (∀ H', Nx H' → ∃ m', m' < m ∧ W (i + 1) m' H') ∧
      ∀ x H', J.yld i H x H' → g x (wipe σ vs) H' fun σ2 H2 => wipe σ2 vs = wipe σ vs ∧ tt σ2 H2 fun b H3 =>
        if b = true then tk σ2 H3 fun y H4 => tv σ2 H4 fun z H5 => ∃ kvs k, y = kV k ∧ H5 D = some (.dK kvs) ∧ kvs.length < sizeLine ∧ Nx (upd H5 D (.dK (putK kvs k z))) else Nx H3)
section
variable {K : PySem.W.Frag} {σ : L2.St} {H : Hp} {Q : VK} {g : TG} {tt : TT} {tk tv : TE} {vs : List Nat} {wi : TI} {j : Nat} {σx : V → L2.St} {a : Addr} {ws : List Int}
theorem rd_dc (h : wi σ H (DcR g tt tk tv vs σ Q)) : tDc wi g tt tk tv vs σ H Q := h
theorem dc_dicT (hx : SqT K H a (ws.map V.int)) (hz : ws.length ≤ 1000) (hσ : ∀ x, (wipe σ vs).set j (some x) = σx x) (hw : ∀ x, wipe (σx x) vs = wipe σ vs)
    (hk : ∀ (x : Int) (H' : Hp) (R : VK), R (.int (x.natAbs : Int)) H' → tk (σx (.int x)) H' R) (hv : ∀ (x : Int) (H' : Hp) (R : VK), R (.int x) H' → tv (σx (.int x)) H' R)
    (hd : ∀ D kvs H', Evl.Ex H H' → H D = none → H' D = some (.dK kvs) → Dic ws kvs → Q (.ref D) H') : DcR (gName j) tYes tk tv vs σ Q (Itt K a) H := fun D hn =>
  dc_tup (xs := ws.map V.int) (fun i H' => Evl.Ex H H' ∧ ∃ kvs, H' D = some (.dK kvs) ∧ Dic (ws.take i) kvs) ⟨Evl.Ex.new hn, [], upd_same, Dic.nil⟩ (fun i H' _ p => Evl.ex_t p.1 hx) (fun i x H' hi p => by
    rw [List.getElem?_map] at hi
    obtain ⟨y, hy, rfl⟩ := Option.map_eq_some_iff.mp hi
    rw [show gName j (.int y) (wipe σ vs) H' = fun N => N (σx (.int y)) H' from funext fun N => by rw [← hσ (.int y)] <;> rfl]
    refine ⟨hw _, rd_yes (rd_true (hk y H' _ (hv y H' _ ?_)))⟩
    obtain ⟨ex, kvs, e, dd⟩ := p
    have hl := dd.len
    rw [List.length_take] at hl
    refine ⟨kvs, lk y, rfl, e, by rw [sizeLine_eq]; omega, Evl.Ex.mut ex hn, _, upd_same, ?_⟩
    rw [List.take_add_one, hy]
    exact dd.put y) fun H' p => by
    obtain ⟨ex, kvs, e, dd⟩ := p
    rw [List.length_map, List.take_of_length_le (Nat.le_refl _)] at dd
    exact hd D kvs H' ex hn e dd
end
theorem rd_ddel {td ty : TE} {D : Ends} {σ : L2.St} {H : Hp} (h : td σ H fun x H1 => ty σ H1 fun y H2 => ∃ a kvs k, x = .ref a ∧ H2 a = some (.dK kvs) ∧ y = kV k ∧ (valV kvs k).isSome = true ∧ D.nx σ (upd H2 a (.dK (dropK kvs k)))) : sDDel td ty D σ H := h
theorem rd_kw {m : Nat} {sp : Sp} {gV : List V → List V} {E : L2.St → XK} {tk : TA} {σ : L2.St} {H : Hp} {Q : VK} (h : tk σ H fun zs H2 => zs.length = m ∧ sp (gV zs) H2 Q (E σ)) : tKw m sp gV E tk σ H Q := h
theorem rd_callS {sp : Sp} {E : L2.St → XK} {t : TA} {σ : L2.St} {H : Hp} {Q : VK} (h : t σ H fun vs H1 => sp vs H1 Q (E σ)) : tCallS sp E t σ H Q := h
theorem rd_ite2 {b : Bool} {te1 te2 : TE} {σ : L2.St} {H : Hp} {Q : VK} (P : V → Hp → Prop) (h1 : ∀ Q : VK, (∀ v H', P v H' → Q v H') → te1 σ H Q) (h2 : ∀ Q : VK, (∀ v H', P v H' → Q v H') → te2 σ H Q)
    (h : ∀ v H', P v H' → Q v H') : if b = true then te1 σ H Q else te2 σ H Q := by
  cases b with
  | true => exact h1 Q h
  | false => exact h2 Q h
theorem nice_row {n : Nat} {ns : List Int} (h : Row n ns) (hn : n ≤ 60) : Nice 60 1 (.tuple (dI ns)) :=
  (Nice.tup (NiceAll.ints fun x hx => by
    have := h.2 x hx
    have : (10 : Nat) ^ 12 = 1000000000000 := by decide
    omega)).mono (by have := h.length; omega) (Nat.le_refl _)
theorem rel_rev : ∀ {zs : List V} {ws : List Value}, Vals zs ws → Vals zs.reverse ws.reverse
  | _, _, .nil => .nil
  | _, _, .cons h t => by
    rw [List.reverse_cons, List.reverse_cons]
    exact (rel_rev t).append (.cons h .nil)
/-- what stands behind a body of the text -/
theorem passAt0 {X : Cx} {σ : L2.St} {E : XK} : PassesAt CX0 X σ E := fun _ _ _ _ _ _ h => h.elim
/-- what stands of an own error class behind the top -/
structure ExcF (K : PySem.W.Frag) (mg : Str → Option Value) (x : Str) (C : Addr) : Prop where
  g : mg x = some (.ref C)
  x : PySem.W.excIn K C [.type "ValueError", .type "Exception", .type "BaseException", .type "object"] "ValueError.__new__" = true
  k : PySem.W.keepIn K (.ref C) = true
  b : PySem.W.subIn K (.ref C) (.type "BaseException") = some true
  t : PySem.W.typeIn K (.ref C) = some (.type "type")
mutual
theorem dp_ex {K : PySem.W.Frag} {H H' : Hp} (e : Evl.Ex H H') : ∀ (d : PyData) (v : V), Dp K H v d → Dp K H' v d
  | .none, _, h => by cases h; exact .non
  | .bool b, _, h => by cases h; exact .bl b
  | .int i, _, h => by cases h; exact .int i
  | .str x, _, h => by cases h; exact .str x
  | .list ds, _, h => by
    cases h with
    | lst hs ha => exact .lst (Evl.ex_l e hs) (dpAll_ex e ds _ ha)
  | .tuple ds, _, h => by
    cases h with
    | tup hs ha => exact .tup (Evl.ex_t e hs) (dpAll_ex e ds _ ha)
  | .dict _, _, h => by cases h
theorem dpAll_ex {K : PySem.W.Frag} {H H' : Hp} (e : Evl.Ex H H') : ∀ (ds : List PyData) (vs : List V), DpAll K H vs ds → DpAll K H' vs ds
  | [], _, h => by cases h; exact .nil
  | d :: ds, _, h => by
    cases h with
    | cons h1 h2 => exact .cons (dp_ex e d _ h1) (dpAll_ex e ds _ h2)
end
end Ea
set_option Elab.async false
set_option linter.all false
set_option maxRecDepth 100000
set_option maxHeartbeats 400000
/-! sorted of a tuple of ints. -/
namespace Ea
open PySem PySem.Spec PyProof.Rows L2
def rSortedT (K : PySem.W.Frag) : List V → Hp → VK → Prop := fun xs H Q => ∃ (a : Addr) (ns : List Int), xs = [.ref a] ∧ SqT K H a (ns.map V.int) ∧ ns.length < 64 ∧
  ∀ (ys : List Int) (p : Addr), ys.Perm ns → ys.Pairwise (· ≤ ·) → H p = none → Q (.ref p) (upd H p (.lst (ys.map V.int)))
theorem cr_sortedT {X : Cx} {K : PySem.W.Frag} (hK : X.K = K) : CallR X (.builtin "sorted") (rSortedT K) := by
  subst hK
  intro pins s σ H xs us Q I r q
  obtain ⟨a, ns, ex, hd, h64, q⟩ := q
  subst ex
  obtain ⟨u, eu, rx⟩ := vals1 r
  subst eu
  cases rx
  obtain ⟨its, rv, ⟨o, ho, hc, n, hds⟩, hz⟩ := I.tuple hd
  have hal : its.length = ns.length := by rw [← rv.length, List.length_map]
  have hS : IntsAre its ns := rv.ints
  refine Calls.call_function_entry PyProof.Rows.kind_sorted PyProof.Rows.plain_sorted PyProof.Rows.entry_sorted (PyProof.Rows.args_sorted1 _) ?_
  unfold Builtin.«sorted»
  refine wpAny_bind (m := checkCount "sorted" 1 1 _) (wpAny_pure ?_)
  refine wpAny_bind (wpAny_collect_seq a (.inr rfl) ho hc hds (fun h' hk => ?_) (by rw [List.size_toArray, hal, sizeLine_eq]; omega))
  have I1 : Inv X pins σ H { s with heap := h' } := I.kept hk
  refine wpAny_bind (wpAny_newList ?_ (by rw [List.toList_toArray, hal, sizeLine_eq]; omega))
  have hoL : (h'.push (seqObj "list" its.toArray.toList.toArray 0)).get? h'.objs.size = some (seqObj "list" its.toArray.toList.toArray 0) := Heap.get?_push_size _ rfl
  show wpAny _ _ _ _ _ { s with heap := h'.push (seqObj "list" its.toArray.toList.toArray 0) }
  refine wpAny_bind (wpAny_holding (wpAny_call_entry PyProof.Rows.slot_list_sort ⟨_, hoL, rfl⟩ PyProof.Rows.entry_list_sort
    (PyProof.Rows.list_sort_tree (s := { s with heap := h'.push (seqObj "list" its.toArray.toList.toArray 0) }) hoL (by rw [List.toList_toArray]; exact hS) (by rw [List.toList_toArray, hal]; exact h64) fun out ys g1 g2 g3 => ⟨_, rfl, ?_⟩) (PyProof.Rows.args_list_sort _)))
  obtain ⟨e', he'⟩ := PyProof.Rows.sortedHeap_at (vs := its.toArray.toList) (out := out) hoL
  have hlen : (ys.map V.int).length ≤ sizeLine := by
    rw [List.length_map, g2.length_eq]
    exact Nat.le_trans (Nat.le_of_lt h64) (by decide)
  refine wpAny_pure ⟨_, rfl, .ref h'.objs.size, upd H h'.objs.size (.lst (ys.map V.int)), I1.laid (t' := s.toks) (fun b u e => ?_) (Nat.le_refl _)
    (show ObjOk X.prog X.w _ _ _ (.lst (ys.map V.int)) from ⟨hlen, out.toList, e', vals_of_ints g1, by rw [Array.toArray_toList]; exact he'⟩), rfl, q ys _ g2 g3 (I1.hok.fresh (Nat.le_refl _))⟩
  have hb : b < h'.objs.size := Heap.lt_size e
  rw [PyProof.Rows.sortedHeap_old (Nat.ne_of_lt hb) (by rw [size_push']; exact Nat.lt_succ_of_lt hb)]
  exact Heap.get?_push_of_some _ e
theorem rd_sortT {K : PySem.W.Frag} {H : Hp} {Q : VK} {a : Addr} {ns : List Int} (s : SqT K H a (ns.map V.int)) (hz : ns.length < 64)
    (h : ∀ (ms : List Int) (q : Addr), ms.Perm ns → ms.Pairwise (· ≤ ·) → H q = none → Q (.ref q) (upd H q (.lst (ms.map V.int)))) : rSortedT K [.ref a] H Q :=
  ⟨a, ns, rfl, s, hz, h⟩
/-- sorted of what ascends -/
theorem sorted_same {ms ns : List Int} (p : ms.Perm ns) (s : ms.Pairwise (· ≤ ·)) (h : ns.Pairwise (· < ·)) : ms = ns := by
  refine List.Perm.eq_of_pairwise (fun a b _ _ h1 h2 => by omega) s (h.imp fun {a b} q => by omega) p
theorem rd_ite2p {p : Prop} {_ : Decidable p} {te1 te2 : TE} {σ : L2.St} {H : Hp} {Q : VK} (P : V → Hp → Prop) (h1 : p → ∀ Q : VK, (∀ v H', P v H' → Q v H') → te1 σ H Q) (h2 : ¬ p → ∀ Q : VK, (∀ v H', P v H' → Q v H') → te2 σ H Q)
    (h : ∀ v H', P v H' → Q v H') : if decide p = true then te1 σ H Q else te2 σ H Q := by
  by_cases c : p
  · rw [if_pos (decide_eq_true c)]
    exact h1 c Q h
  · rw [if_neg (by rw [decide_eq_true_eq]; exact c)]
    exact h2 c Q h
theorem rd_mulL {H : Hp} {Q : VK} {l : Addr} {k : Int} {xs : List V} (h : H l = some (.lst xs)) (h1 : 0 ≤ k ∧ k < 2 ^ 63) (hz : xs.length * k.toNat ≤ sizeLine) (q : ∀ p, H p = none → Q (.ref p) (upd H p (.lst (List.replicate k.toNat xs).flatten))) : rRep (.ref l) (.int k) H Q :=
  ⟨l, k, xs, rfl, rfl, h, by omega, h1.2, hz, q⟩
theorem rd_andV {ta tb : TE} {σ : L2.St} {H : Hp} {Q : VK} (h : ta σ H fun x H1 => ∃ c, x = .bl c ∧ if c = true then tb σ H1 Q else Q (.bl false) H1) : tAndV ta tb σ H Q := h
theorem rd_orV {ta tb : TE} {σ : L2.St} {H : Hp} {Q : VK} (h : ta σ H fun x H1 => ∃ c, x = .bl c ∧ if c = true then Q (.bl true) H1 else tb σ H1 Q) : tOrV ta tb σ H Q := h
theorem rd_notV {ta : TE} {σ : L2.St} {H : Hp} {Q : VK} (h : ta σ H fun x H1 => ∃ c, x = .bl c ∧ Q (.bl (!c)) H1) : tNotV ta σ H Q := h
theorem rd_bc {b : Bool} {P : Bool → Prop} (h : P b) : ∃ c, V.bl b = V.bl c ∧ P c := ⟨b, rfl, h⟩
/-- if, its ends brought together -/
theorem rd_meet {p : Prop} {_ : Decidable p} {t1 t2 : TS} {D : Ends} {σ : L2.St} {H : Hp} (I : L2.St → Hp → Prop) (h1 : p → ∀ N : L2.St → Hp → Prop, (∀ σ' H', I σ' H' → N σ' H') → t1 { D with nx := N } σ H)
    (h2 : ¬ p → ∀ N : L2.St → Hp → Prop, (∀ σ' H', I σ' H' → N σ' H') → t2 { D with nx := N } σ H) (h : ∀ σ' H', I σ' H' → D.nx σ' H') : if decide p = true then t1 D σ H else t2 D σ H := by
  by_cases c : p
  · rw [if_pos (decide_eq_true c)]
    exact h1 c D.nx h
  · rw [if_neg (by rw [decide_eq_true_eq]; exact c)]
    exact h2 c D.nx h
end Ea
set_option Elab.async false
set_option linter.all false
set_option maxRecDepth 100000
set_option maxHeartbeats 400000
/-! A deck of draws that is a list: what draws leave as it was; comprehensions among them. -/
namespace Ea
open PySem PySem.Spec PyProof.Rows L2
/-- a deck: a list of what is left to be drawn, a number, how often it was drawn from that -/
def DeckL (d l : Addr) (H : Hp) : Prop := ∃ (ns : List Int) (m c : Int),
  H d = some (.lst [.ref l, .int m, .int c]) ∧ H l = some (.lst (ns.map V.int)) ∧ ns.length ≤ 63 ∧ (∀ n ∈ ns, 0 ≤ n) ∧ 0 ≤ m ∧ m < 4294967291
theorem deck_ne {l : Addr} {m c : Int} {ns : List Int} {d : Addr} {H : Hp} (e1 : H d = some (.lst [.ref l, .int m, .int c])) (e2 : H l = some (.lst (ns.map V.int))) : d ≠ l := by
  intro e
  rw [e, e2] at e1
  cases ns with
  | nil => cases e1
  | cons x r => cases e1
structure Gl (d l : Addr) (H H' : Hp) : Prop where
  dk : DeckL d l H'
  kp : ∀ a o, a ≠ d → a ≠ l → H a = some o → H' a = some o
section
variable {d l : Addr} {H H1 H2 : Hp}
theorem DeckL.ne (h : DeckL d l H) : d ≠ l := by
  obtain ⟨ns, m, c, e1, e2, _⟩ := h
  exact deck_ne e1 e2
theorem Gl.refl (h : DeckL d l H) : Gl d l H H := ⟨h, fun _ _ _ _ e => e⟩
theorem Gl.trans (a : Gl d l H H1) (b : Gl d l H1 H2) : Gl d l H H2 := ⟨b.dk, fun p o n1 n2 e => b.kp p o n1 n2 (a.kp p o n1 n2 e)⟩
theorem DeckL.off (h : DeckL d l H) {p : Addr} (e : H p = none) : p ≠ d ∧ p ≠ l := by
  obtain ⟨ns, m, c, e1, e2, _⟩ := h
  exact ⟨fun z => (by rw [z, e1] at e; cases e), fun z => (by rw [z, e2] at e; cases e)⟩
theorem DeckL.upd (h : DeckL d l H) {p : Addr} {o : HO} (n1 : p ≠ d) (n2 : p ≠ l) : DeckL d l (upd H p o) := by
  obtain ⟨ns, m, c, e1, e2, r⟩ := h
  exact ⟨ns, m, c, by rw [upd_ne n1.symm]; exact e1, by rw [upd_ne n2.symm]; exact e2, r⟩
theorem Gl.new (h : DeckL d l H) {p : Addr} {o : HO} (e : H p = none) : Gl d l H (upd H p o) := by
  obtain ⟨n1, n2⟩ := h.off e
  exact ⟨h.upd n1 n2, fun q u _ _ eq => by rw [upd_ne (ne_of_none eq e)]; exact eq⟩
/-- an object that H does not know may change -/
theorem Gl.mut (g : Gl d l H H1) (h : DeckL d l H) {p : Addr} {o : HO} (e : H p = none) : Gl d l H (upd H1 p o) := by
  obtain ⟨n1, n2⟩ := h.off e
  exact ⟨g.dk.upd n1 n2, fun q u m1 m2 eq => by rw [upd_ne (ne_of_none eq e)]; exact g.kp q u m1 m2 eq⟩
theorem Gl.back (g : Gl d l H H1) (h : DeckL d l H) {p : Addr} (e : H1 p = none) : H p = none := by
  obtain ⟨n1, n2⟩ := g.dk.off e
  cases q : H p with
  | none => rfl
  | some o =>
    rw [g.kp p o n1 n2 q] at e
    cases e
/-- a tuple stays -/
theorem Gl.tup {K : PySem.W.Frag} (g : Gl d l H H1) (h : DeckL d l H) {a : Addr} {xs : List V} (t : SqT K H a xs) : SqT K H1 a xs := by
  obtain ⟨ns, m, c, e1, e2, _⟩ := h
  have hn : ∀ {o : HO}, H a = some o → (∀ kv, o ≠ .dK kv) → (∀ ys, o ≠ .lst ys) → H1 a = some o := fun e c1 c2 =>
    g.kp a _ (fun z => (by rw [z, e1] at e; cases e; exact c2 _ rfl)) (fun z => (by rw [z, e2] at e; cases e; exact c2 _ rfl)) e
  rcases t with (t | ⟨o, t⟩) | t
  · exact .inl (.inl (hn t nofun nofun))
  · exact .inl (.inr ⟨o, hn t nofun nofun⟩)
  · exact .inr t
end
section
variable {d l : Addr} {K : PySem.W.Frag} {σ : L2.St} {H : Hp} {Q : VK} {tt : TT} {te : TE} {vs : List Nat} {j : Nat} {σx : V → L2.St} {a : Addr} {xs : List V}
/-- a turn of a comprehension among draws -/
abbrev TurnL (d l : Addr) (H : Hp) (tt : TT) (te : TE) (σx : V → L2.St) (Pv : Nat → List V → Prop) (i : Nat) (x : V) : Prop :=
  ∀ (acc : List V) (H' : Hp) (N : VK) (S : Hp → Prop), Gl d l H H' → Pv i acc →
    (∀ y H3, Gl d l H' H3 → Pv (i + 1) (acc ++ [y]) → N y H3) → (∀ H3, Gl d l H' H3 → Pv (i + 1) acc → S H3) →
    tt (σx x) H' fun b H2 => if b = true then te (σx x) H2 N else S H2
def Cl (d l : Addr) (H : Hp) (Pv : Nat → List V → Prop) (D : Addr) (i : Nat) (H' : Hp) : Prop :=
  ∃ acc, H D = none ∧ Gl d l H H' ∧ H' D = some (.lst acc) ∧ acc.length ≤ i ∧ Pv i acc
theorem cl_start {Pv : Nat → List V → Prop} (hD : DeckL d l H) (h0 : Pv 0 []) {D : Addr} (e : H D = none) : Cl d l H Pv D 0 (upd H D (.lst [])) :=
  ⟨[], e, Gl.new hD e, upd_same, Nat.le_refl _, h0⟩
theorem cl_turn {Pv : Nat → List V → Prop} {D : Addr} {i : Nat} {x : V} {H' : Hp} (hD : DeckL d l H) (hi : i < 100000) (ht : TurnL d l H tt te σx Pv i x) (p : Cl d l H Pv D i H') :
    tt (σx x) H' fun b H3 => if b = true then te (σx x) H3 fun y H4 => ∃ acc, H4 D = some (.lst acc) ∧ acc.length < sizeLine ∧ Cl d l H Pv D (i + 1) (upd H4 D (.lst (acc ++ [y]))) else Cl d l H Pv D (i + 1) H3 := by
  obtain ⟨acc, e, g, ea, hl, hp⟩ := p
  obtain ⟨n1, n2⟩ := hD.off e
  refine ht acc H' _ _ g hp (fun y H3 g3 hp3 => ?_) fun H3 g3 hp3 => ?_
  · refine ⟨acc, g3.kp D _ n1 n2 ea, Evl.sz_lt (by omega), acc ++ [y], e, Gl.mut (g.trans g3) hD e, upd_same, ?_, hp3⟩
    rw [List.length_append, List.length_singleton]
    omega
  · exact ⟨acc, e, g.trans g3, g3.kp D _ n1 n2 ea, by omega, hp3⟩
theorem lc_glT (Pv : Nat → List V → Prop) (hD : DeckL d l H) (hx : SqT K H a xs) (hz : xs.length ≤ 40000) (hσ : ∀ x, (wipe σ vs).set j (some x) = σx x) (hw : ∀ x, wipe (σx x) vs = wipe σ vs)
    (h0 : Pv 0 []) (hs : ∀ i x, xs[i]? = some x → TurnL d l H tt te σx Pv i x)
    (hd : ∀ D acc H', Gl d l H H' → H D = none → H' D = some (.lst acc) → Pv xs.length acc → Q (.ref D) H') : LcR (gName j) tt te vs σ Q (Itt K a) H := fun D hn =>
  lc_tup (xs := xs) (Cl d l H Pv D) (cl_start hD h0 hn) (fun i H' _ ⟨_, _, g, _⟩ => g.tup hD hx) (fun i x H' hi p => by
    rw [show gName j x (wipe σ vs) H' = fun N => N (σx x) H' from funext fun N => by rw [← hσ x] <;> rfl]
    refine ⟨hw x, ?_⟩
    have := (List.getElem?_eq_some_iff.mp hi).1
    exact cl_turn hD (by omega) (hs i x hi) p) fun H' p => by
    obtain ⟨acc, e, g, ea, _, hp⟩ := p
    exact hd D acc H' g e ea hp
theorem lc_glL (Pv : Nat → List V → Prop) (hD : DeckL d l H) (hx : ∀ H', Gl d l H H' → SqL K H' a xs) (hz : xs.length ≤ 40000) (hσ : ∀ x, (wipe σ vs).set j (some x) = σx x) (hw : ∀ x, wipe (σx x) vs = wipe σ vs)
    (h0 : Pv 0 []) (hs : ∀ i x, xs[i]? = some x → TurnL d l H tt te σx Pv i x)
    (hd : ∀ D acc H', Gl d l H H' → H D = none → H' D = some (.lst acc) → Pv xs.length acc → Q (.ref D) H') : LcR (gName j) tt te vs σ Q (Itl K a) H := fun D hn =>
  lc_list (xs := xs) (Cl d l H Pv D) (cl_start hD h0 hn) (fun i H' _ ⟨_, _, g, _⟩ => hx H' g) (fun i x H' hi p => by
    rw [show gName j x (wipe σ vs) H' = fun N => N (σx x) H' from funext fun N => by rw [← hσ x] <;> rfl]
    refine ⟨hw x, ?_⟩
    have := (List.getElem?_eq_some_iff.mp hi).1
    exact cl_turn hD (by omega) (hs i x hi) p) fun H' p => by
    obtain ⟨acc, e, g, ea, _, hp⟩ := p
    exact hd D acc H' g e ea hp
theorem lc_glR {lo : Int} {n : Nat} (Pv : Nat → List V → Prop) (hD : DeckL d l H) (hz : n ≤ 40000) (hσ : ∀ x, (wipe σ vs).set j (some x) = σx x) (hw : ∀ x, wipe (σx x) vs = wipe σ vs)
    (h0 : Pv 0 []) (hs : ∀ i, i < n → TurnL d l H tt te σx Pv i (.int (lo + i)))
    (hd : ∀ D acc H', Gl d l H H' → H D = none → H' D = some (.lst acc) → Pv n acc → Q (.ref D) H') : LcR (gName j) tt te vs σ Q (Itr lo n) H := fun D hn =>
  lc_range (Cl d l H Pv D) (cl_start hD h0 hn) (fun i H' hi p => by
    rw [show gName j (.int (lo + i)) (wipe σ vs) H' = fun N => N (σx (.int (lo + i))) H' from funext fun N => by rw [← hσ (.int (lo + i))] <;> rfl]
    exact ⟨hw _, cl_turn hD (by omega) (hs i hi) p⟩) fun H' p => by
    obtain ⟨acc, e, g, ea, _, hp⟩ := p
    exact hd D acc H' g e ea hp
end

section
variable {d l : Addr} {H H' : Hp}
theorem Gl.ex (e : Evl.Ex H H') (h : DeckL d l H) : Gl d l H H' := by
  obtain ⟨ns, m, c, e1, e2, r⟩ := h
  exact ⟨⟨ns, m, c, e _ _ e1, e _ _ e2, r⟩, fun a o _ _ q => e a o q⟩
end
theorem rd_gsub {to ti : TE} {t : TSet} {v : V} {σ : L2.St} {H : Hp} {N : L2.St → Hp → Prop} (h : to σ H fun o H1 => ti σ H1 fun i H2 => t o i v H2 fun H3 => N σ H3) : gSub to ti t v σ H N := h
end Ea
set_option Elab.async false
set_option linter.all false
set_option maxRecDepth 100000
set_option maxHeartbeats 1000000
/-! enumerate of a tuple; zip of a tuple and a list. -/
namespace Ea
open PySem PySem.Spec PyProof.Rows L2
/-- enumerate(v), v told by how its iterator begins -/
theorem meets_enum1 {v : Value} {o : Obj} {Hh : Heap → Prop} (B : Begins v o Hh) :
    Meets (Builtin.«enumerate.__new__» ⟨[.type "enumerate", v], []⟩) (fun _ R s => Hh s.heap ∧
      R (.ok (.ret (.ref (s.heap.push o).objs.size))) { s with heap := (s.heap.push o).push { cls := .type "enumerate", data := .fields #[.none, .bool false, .ref s.heap.objs.size, rawInt 0, .none, .none] } }) :=
  .of_wp fun prog w A R s h => by
    obtain ⟨hp, g, d, tk, os⟩ := s
    obtain ⟨h1, h⟩ := h
    have hsub := sub_enumerate
    have q1 : ∀ {A' : Around} {E : Value → Shared → Prop} {Q : Value → Shared → Prop}, Q (.ref hp.objs.size) ⟨hp.push o, g, d, tk, os⟩ → wpAny (model prog w) A' (pyIter v) Q E ⟨hp, g, d, tk, os⟩ :=
      fun q => B.iter prog w _ _ ⟨hp, g, d, tk, os⟩ _ h1 q
    wp_walk using q1
    refine wpAny_stack_any fun st => wpAny_pure ?_
    split
    · rename_i c _ _ _ _ _
      cases (c == Value.type "enumerate") <;> (wp_walk using q1; exact ⟨_, rfl, h⟩)
    · wp_walk using q1
      exact ⟨_, rfl, h⟩
theorem call_enum1 {prog : Program} {w : World} {A : Around} {E : Value → Shared → Prop} {s : Shared} {v : Value} {o : Obj} {Hh : Heap → Prop} {Q : Value → Shared → Prop} (B : Begins v o Hh) (h1 : Hh s.heap)
    (h : ∀ h', IsEnum h' (s.heap.objs.size + 1) s.heap.objs.size 0 .none → h'.get? s.heap.objs.size = some o → (∀ b o, s.heap.get? b = some o → h'.get? b = some o) → Q (.ref (s.heap.objs.size + 1)) { s with heap := h' }) :
    wpAny (model prog w) A (call (.type "enumerate") [v]) Q E s := by
  refine callType_new F.called_enumerate (by decide) (F.typeCall_enumerate_1 _) (F.newCall_enumerate_1 _) (fun obj => F.args_object_init_2 obj _) F.entry_enumerate_new (meets_enum1 B) ⟨h1, ?_⟩
  have hz : (s.heap.push o).objs.size = s.heap.objs.size + 1 := Heap.size_push ..
  show _ ∧ _
  rw [hz]
  have he : IsEnum ((s.heap.push o).push { cls := .type "enumerate", data := .fields #[.none, .bool false, .ref s.heap.objs.size, rawInt 0, .none, .none] }) (s.heap.objs.size + 1) s.heap.objs.size 0 .none := by
    have z := Heap.get?_push_size (s.heap.push o) (o := { cls := .type "enumerate", data := .fields #[.none, .bool false, .ref s.heap.objs.size, rawInt 0, .none, .none] }) rfl
    rw [hz] at z
    exact z
  exact ⟨⟨_, he, rfl⟩, h _ he (Heap.get?_push_of_some _ (Heap.get?_push_size _ B.free)) fun b o x => Heap.get?_push_of_some _ (Heap.get?_push_of_some _ x)⟩
/-- the tuple at a, each item in a new pair -/
def IteT (K : PySem.W.Frag) (a : Addr) : It :=
  ⟨fun i H => ∃ (xs : List V) (x : V), SqT K H a xs ∧ xs[i]? = some x, fun i H v H' => ∃ T x, v = .ref T ∧ H T = none ∧ H' = upd H T (.tup [.int (i : Nat), x]) ∧ ∀ xs, SqT K H a xs → xs[i]? = some x, fun i H => ∃ xs : List V, SqT K H a xs ∧ xs.length = i⟩
theorem apart {h : Heap} {a b : Addr} {o u : Obj} (e1 : h.get? a = some o) (e2 : h.get? b = some u) (hc : o.cls ≠ u.cls) : a ≠ b := fun e => by
  rw [e, e2] at e1
  cases e1
  exact hc rfl
theorem turn_enumT {P : Program} {w : World} {K : PySem.W.Frag} {elts : List Expr} {kk : Nat} {tpos : Pos} (a e it : Addr) :
    L2.Turn P w K (.Tuple elts kk tpos) (IteT K a) [e, it] e (fun i h => (∃ old, IsEnum h e it ((i : Nat) : Int) old) ∧ h.IsTupleIter it a i ∧ e ≠ it) where
  mem := by simp
  obj := fun i h st b hb => by
    obtain ⟨⟨old, he⟩, ⟨o, ho, hc, hd⟩, _⟩ := st
    have e' : b = e ∨ b = it := by simpa using hb
    rcases e' with rfl | rfl
    · exact ⟨_, he, fun v q => nomatch q⟩
    · exact ⟨o, ho, fun v q => by rw [hd] at q; cases q⟩
  keep := fun i h h' st k => let ⟨⟨old, he⟩, hi, hne⟩ := st; ⟨⟨old, k e (by simp) _ he⟩, hi.at fun o q => k it (by simp) o q, hne⟩
  item := by
    intro X hP hw hK hc i pins s σ H E I hf st hg
    subst hP hw hK
    obtain ⟨⟨old, he⟩, hit, hne⟩ := st
    obtain ⟨xs, x, hq, hx⟩ := hg
    obtain ⟨its, rv, p, hz⟩ := I.tuple hq
    obtain ⟨u, hu, ru⟩ := rv.get hx
    obtain ⟨oi, hoi, hci, _⟩ := id hit
    obtain ⟨ot, hot, hct, _⟩ := id p
    have hai : a ≠ it := apart hot hoi (by rw [hct, hci]; decide)
    have hea : e ≠ a := apart he hot (by rw [hct]; show Value.type "enumerate" ≠ Value.type "tuple"; decide)
    have hel : e < s.heap.objs.size := Heap.lt_size he
    have hil : it < s.heap.objs.size := Heap.lt_size hoi
    have hlt : i < its.toArray.size := by
      have := (List.getElem?_eq_some_iff.mp hu).1
      simpa using this
    refine wpAny_pyNext_enum_itemD (Draws.tuple (prog := X.prog) (w := X.w) (A := X.A.in1) (I.ok.hd hc) it a hai its.toArray) he ⟨hit, p⟩ hlt hne (by simp [hne, hea]) fun x' h' tk hP ho st' hT hsz hk => ?_
    obtain rfl : u = x' := by
      have z : its[i]? = some x' := by simpa using hP
      rw [hu] at z
      exact Option.some.inj z
    refine ⟨_, rfl, wpAny_letOwnedTupleGo_enum (s := { s with heap := h', toks := tk + 1 }) ho fun h'' he' sb => ?_⟩
    have hT2 : h''.get? s.heap.objs.size = some { cls := .type "tuple", data := .seq #[.int i tk, u] } := (sb.2 _ (Nat.ne_of_gt hel)).trans hT
    have new : ObjOk X.prog X.w (upd H s.heap.objs.size (.tup [.int (i : Nat), x])) h'' s.heap.objs.size (.tup [.int (i : Nat), x]) :=
      ⟨by show 2 ≤ sizeLine; decide, [.int i tk, u], .cons ⟨_, rfl⟩ (.cons ru .nil), ⟨_, hT2, rfl, _, rfl⟩⟩
    have I1 : Inv X pins σ (upd H s.heap.objs.size (.tup [.int (i : Nat), x])) { s with heap := h'', toks := tk + 1 } :=
      I.turnedNew (ch := [e, it]) (fun b ob hb q => (sb.2 b (fun z => hb (by simp [z]))).trans (hk b ob (fun z => hb (by simp [z])) (fun z => hb (by simp [z])) q)) hf (Nat.le_refl _) new
    refine ⟨.ref s.heap.objs.size, _, I1, rfl, ⟨_, x, rfl, I.hok.fresh (Nat.le_refl _), rfl, fun ys hy => by rw [I.tuple_inj hy hq]; exact hx⟩, ⟨⟨u, ?_⟩, st'.1.at fun o q => (sb.2 it (Ne.symm hne)).trans q, hne⟩, fun b hb => ?_⟩
    · have e1 : ((i + 1 : Nat) : Int) = (i : Int) + 1 := by omega
      rw [e1]
      exact he'
    · have hb' : b < s.heap.objs.size := by
        have e' : b = e ∨ b = it := by simpa using hb
        rcases e' with rfl | rfl
        · exact hel
        · exact hil
      rw [upd_ne (Nat.ne_of_lt hb')]
      exact (hf b hb).1
  done := by
    intro X hP hw hK hc i pins s σ H E I hf st hg
    subst hP hw hK
    obtain ⟨⟨old, he⟩, hit, hne⟩ := st
    obtain ⟨xs, hq, hx⟩ := hg
    obtain ⟨its, rv, p, hz⟩ := I.tuple hq
    obtain ⟨oi, hoi, hci, _⟩ := id hit
    obtain ⟨ot, hot, hct, _⟩ := id p
    have hai : a ≠ it := apart hot hoi (by rw [hct, hci]; decide)
    obtain ⟨f0, f1, f2, f3, f4, f5⟩ := hf it (by simp)
    have hl : i = its.toArray.size := by
      have := rv.length
      rw [List.size_toArray]
      omega
    exact wpAny_pyNext_enum_endD (Draws.tuple (prog := X.prog) (w := X.w) (A := X.A.in1) (I.ok.hd hc) it a hai its.toArray) he ⟨hl ▸ hit, p⟩ fun h' eb => ⟨rfl, I.turned (t' := s.toks) (fun b o hb q => eb b o hb q) f0 f1 f3 f4 f5⟩
  self := fun A i s Q E st h => let ⟨⟨_, he⟩, _⟩ := st; wpAny_pyIter_enum he h
def iEnumT (K : PySem.W.Frag) (ta : TA) : TI := fun σ H R => ta σ H fun vs H1 => ∃ a xs, vs = [.ref a] ∧ SqT K H1 a xs ∧ R (IteT K a) H1
theorem pi_enumT {X : Cx} {K : PySem.W.Frag} (hKK : X.K = K) {e : Expr} {ta : TA} {p pos tpos : Pos} {elts : List Expr} {kk : Nat} (hg : L2.Gl X "enumerate") (hm : X.mg "enumerate" = none) (ha : PA X [e] ta) (hs : starEach [e] X.env = [(false, eval e X.env)] := by rfl) :
    PI X (.Tuple elts kk tpos) (.Call (.Name "enumerate" p) [e] [] pos) (iEnumT K ta) := by
  subst hKK
  refine ⟨fun pins s σ H R I h => ?_⟩
  refine Call_ (ld_blt I hg hm boot_enumerate (PyProof.Rows.callWith_type1 (thn (ha.run pos pins s σ H _ I h) fun us s1 ⟨vs, H1, I1, r1, q1⟩ => ?_) hs rfl))
  obtain ⟨a, xs, ex, hq, q⟩ := q1
  subst ex
  cases r1 with
  | cons r rr =>
    cases rr
    cases r
    obtain ⟨its, rv, p', hz⟩ := I1.tuple hq
    refine call_enum1 (begins_tuple a its.toArray) (show s1.heap.IsTuple a its.toArray from p') fun h' he hit hk => wpAny_pyIter_enum he ?_
    have I2 : Inv X pins σ H1 { s1 with heap := h' } := I1.kept (t' := s1.toks) hk
    refine ⟨s1.heap.objs.size + 1, [s1.heap.objs.size + 1, s1.heap.objs.size], _, _, H1, rfl, I2, turn_enumT a (s1.heap.objs.size + 1) s1.heap.objs.size, ⟨⟨.none, he⟩, ⟨_, hit, rfl, rfl⟩, Nat.succ_ne_self _⟩, fun b hb => ?_, q⟩
    have e' : b = s1.heap.objs.size + 1 ∨ b = s1.heap.objs.size := by simpa using hb
    have hle : s1.heap.objs.size ≤ b := by
      rcases e' with rfl | rfl
      · exact Nat.le_add_right _ _
      · exact Nat.le_refl _
    exact I1.fpOk hle (I1.hok.fresh hle)
end Ea
set_option Elab.async false
set_option linter.all false
set_option maxRecDepth 100000
set_option maxHeartbeats 1000000
/-! zip of a tuple and a list. -/
namespace Ea
open PySem PySem.Spec PyProof.Rows L2
/-- the tuple at a and the list at b, the items in new pairs -/
def ItzM (K : PySem.W.Frag) (a b : Addr) : It :=
  ⟨fun i H => ∃ (xs ys : List V) (x y : V), SqT K H a xs ∧ SqL K H b ys ∧ xs[i]? = some x ∧ ys[i]? = some y,
    fun i H v H' => ∃ T x y, v = .ref T ∧ H T = none ∧ H' = upd H T (.tup [x, y]) ∧ (∀ xs, SqT K H a xs → xs[i]? = some x) ∧ ∀ ys, SqL K H b ys → ys[i]? = some y,
    fun i H => ∃ xs ys : List V, SqT K H a xs ∧ SqL K H b ys ∧ i ≤ xs.length ∧ i ≤ ys.length ∧ (i = xs.length ∨ i = ys.length)⟩
structure Cells (z TI TO i1 i2 : Addr) : Prop where
  TIz : TI ≠ z
  TOz : TO ≠ z
  TITO : TI ≠ TO
  TIi1 : TI ≠ i1
  TIi2 : TI ≠ i2
  TOi1 : TO ≠ i1
  TOi2 : TO ≠ i2
  zi1 : z ≠ i1
  zi2 : z ≠ i2
  i12 : i1 ≠ i2
theorem cells_sep {h : Heap} {z TI TO i1 i2 a b : Addr} {k1 k2 : Nat} {xs ys : Array Value} {x y : Value} (C : Cells z TI TO i1 i2) (hz : IsZip h z TI TO .none) (hTO : IsTupOf2 h TO x y)
    (h1 : h.IsTupleIter i1 a k1) (h2 : h.IsListIter i2 b k2) (ha : h.IsTuple a xs) (hb : h.IsList b ys) (hTa : TO ≠ a) : ZipSep2 z TI TO i1 i2 [i1, a] [i2, b] ∧ a ≠ i1 ∧ b ≠ i2 := by
  obtain ⟨o1, e1, c1, _⟩ := h1
  obtain ⟨o2, e2, c2, _⟩ := h2
  obtain ⟨oa, ea, ca, _⟩ := ha
  obtain ⟨ob, eb, cb, _⟩ := hb
  have nza : z ≠ a := apart hz ea (by rw [ca]; show Value.type "zip" ≠ Value.type "tuple"; decide)
  have nzb : z ≠ b := apart hz eb (by rw [cb]; show Value.type "zip" ≠ Value.type "list"; decide)
  have nTb : TO ≠ b := apart hTO eb (by rw [cb]; show Value.type "tuple" ≠ Value.type "list"; decide)
  have n1b : i1 ≠ b := apart e1 eb (by rw [c1, cb]; decide)
  have n2a : i2 ≠ a := apart e2 ea (by rw [c2, ca]; decide)
  have na1 : a ≠ i1 := apart ea e1 (by rw [ca, c1]; decide)
  have nb2 : b ≠ i2 := apart eb e2 (by rw [cb, c2]; decide)
  refine ⟨{ TIz := C.TIz, TOz := C.TOz, TITO := C.TITO, TIi1 := C.TIi1, mem1 := by simp, zf1 := ?_, Tf1 := ?_, TIi2 := C.TIi2, mem2 := by simp, zf2 := ?_, Tf2 := ?_, sep1_2 := ?_, sep2_1 := ?_ }, na1, nb2⟩
  · simp [C.zi1, nza]
  · simp [C.TOi1, hTa]
  · simp [C.zi2, nzb]
  · simp [C.TOi2, nTb]
  · simp [C.i12, n1b]
  · simp [C.i12.symm, n2a]
theorem turn_zipM {P : Program} {w : World} {K : PySem.W.Frag} {elts : List Expr} {kk : Nat} {tpos : Pos} {a b z TI TO i1 i2 : Addr} (C : Cells z TI TO i1 i2) (hTa : TO ≠ a) :
    L2.Turn P w K (.Tuple elts kk tpos) (ItzM K a b) [z, TI, TO, i1, i2] z (fun i h => IsZip h z TI TO .none ∧ IsTupOf2 h TI (.ref i1) (.ref i2) ∧ (∃ x y, IsTupOf2 h TO x y) ∧ h.IsTupleIter i1 a i ∧ h.IsListIter i2 b i) where
  mem := by simp
  obj := fun i h st c hc => by
    obtain ⟨hz, hTI, ⟨x, y, hTO⟩, ⟨o1, e1, _, d1⟩, ⟨o2, e2, _, d2⟩⟩ := st
    have e' : c = z ∨ c = TI ∨ c = TO ∨ c = i1 ∨ c = i2 := by simpa using hc
    rcases e' with rfl | rfl | rfl | rfl | rfl
    · exact ⟨_, hz, fun v q => nomatch q⟩
    · exact ⟨_, hTI, fun v q => nomatch q⟩
    · exact ⟨_, hTO, fun v q => nomatch q⟩
    · exact ⟨o1, e1, fun v q => by rw [d1] at q; cases q⟩
    · exact ⟨o2, e2, fun v q => by rw [d2] at q; cases q⟩
  keep := fun i h h' st k => by
    obtain ⟨hz, hTI, ⟨x, y, hTO⟩, h1, h2⟩ := st
    exact ⟨k z (by simp) _ hz, k TI (by simp) _ hTI, ⟨x, y, k TO (by simp) _ hTO⟩, h1.at fun o q => k i1 (by simp) o q, h2.at fun o q => k i2 (by simp) o q⟩
  item := by
    intro X hP hw hK hc i pins s σ H E I hf st hg
    subst hP hw hK
    obtain ⟨hz, hTI, ⟨x0, y0, hTO⟩, h1, h2⟩ := st
    obtain ⟨xs, ys, x, y, hqx, hqy, hx, hy⟩ := hg
    obtain ⟨its, rv, p, _⟩ := I.tuple hqx
    obtain ⟨its2, rv2, p2, _⟩ := I.list hqy
    obtain ⟨u, hu, ru⟩ := rv.get hx
    obtain ⟨u2, hu2, ru2⟩ := rv2.get hy
    have pt : s.heap.IsTuple a its.toArray := p
    obtain ⟨S, na1, nb2⟩ := cells_sep C hz hTO h1 h2 pt p2.isList hTa
    have hzl : z < s.heap.objs.size := Heap.lt_size hz
    have hlt1 : i < its.toArray.size := by
      have := (List.getElem?_eq_some_iff.mp hu).1
      simpa using this
    have hlt2 : i < its2.toArray.size := by
      have := (List.getElem?_eq_some_iff.mp hu2).1
      simpa using this
    refine wpAny_pyNext_zipD2_item S (Draws.tuple (prog := X.prog) (w := X.w) (A := X.A.in1) (I.ok.hd hc) i1 a na1 its.toArray) (Draws.list (prog := X.prog) (w := X.w) (A := X.A.in1) (I.ok.hd hc) i2 b nb2 its2.toArray) hz hTI hTO ⟨h1, pt⟩ ⟨h2, p2.isList⟩ hlt1 hlt2 fun x1 x2 h' tk hP1 hP2 z' TO' st1 st2 hT hsz hk => ?_
    obtain rfl : u = x1 := by
      have q : its[i]? = some x1 := by simpa using hP1
      rw [hu] at q
      exact Option.some.inj q
    obtain rfl : u2 = x2 := by
      have q : its2[i]? = some x2 := by simpa using hP2
      rw [hu2] at q
      exact Option.some.inj q
    refine ⟨_, rfl, wpAny_letOwnedTupleGo_zip (s := { s with heap := h', toks := tk }) z' fun h'' z'' sb => ?_⟩
    have hT2 : h''.get? s.heap.objs.size = some { cls := .type "tuple", data := .seq #[u, u2] } := (sb.2 _ (Nat.ne_of_gt hzl)).trans hT
    have new : ObjOk X.prog X.w (upd H s.heap.objs.size (.tup [x, y])) h'' s.heap.objs.size (.tup [x, y]) :=
      ⟨by show 2 ≤ sizeLine; decide, [u, u2], .cons ru (.cons ru2 .nil), ⟨_, hT2, rfl, _, rfl⟩⟩
    have I1 : Inv X pins σ (upd H s.heap.objs.size (.tup [x, y])) { s with heap := h'', toks := tk } :=
      I.turnedNew (ch := [z, TI, TO, i1, i2]) (fun c o hb q => (sb.2 c (fun q' => hb (by simp [q']))).trans (hk c o (fun q' => hb (by simp [q'])) (fun q' => hb (by simp [q'])) (fun q' => hb (by simp [q'])) (fun q' => hb (by simp [q'])) q)) hf (Nat.le_refl _) new
    refine ⟨.ref s.heap.objs.size, _, I1, rfl, ⟨_, x, y, rfl, I.hok.fresh (Nat.le_refl _), rfl, fun l hl => by rw [I.tuple_inj hl hqx]; exact hx, fun l hl => by rw [I.list_inj hl hqy]; exact hy⟩, ⟨z'', ?_, ⟨u, u2, ?_⟩, ?_, ?_⟩, fun c hcm => ?_⟩
    · exact (sb.2 _ C.TIz).trans (hk _ _ C.TIz C.TITO C.TIi1 C.TIi2 hTI)
    · exact (sb.2 _ C.TOz).trans TO'
    · exact st1.1.at fun o q => (sb.2 _ C.zi1.symm).trans q
    · exact st2.1.at fun o q => (sb.2 _ C.zi2.symm).trans q
    · have hlt : c < s.heap.objs.size := by
        have e' : c = z ∨ c = TI ∨ c = TO ∨ c = i1 ∨ c = i2 := by simpa using hcm
        rcases e' with rfl | rfl | rfl | rfl | rfl
        · exact hzl
        · exact Heap.lt_size hTI
        · exact Heap.lt_size hTO
        · obtain ⟨_, e1, _⟩ := h1
          exact Heap.lt_size e1
        · obtain ⟨_, e2, _⟩ := h2
          exact Heap.lt_size e2
      rw [upd_ne (Nat.ne_of_lt hlt)]
      exact (hf c hcm).1
  done := by
    intro X hP hw hK hc i pins s σ H E I hf st hg
    subst hP hw hK
    obtain ⟨hz, hTI, ⟨x0, y0, hTO⟩, h1, h2⟩ := st
    obtain ⟨xs, ys, hqx, hqy, l1, l2, hend⟩ := hg
    obtain ⟨its, rv, p, _⟩ := I.tuple hqx
    obtain ⟨its2, rv2, p2, _⟩ := I.list hqy
    have pt : s.heap.IsTuple a its.toArray := p
    obtain ⟨S, na1, nb2⟩ := cells_sep C hz hTO h1 h2 pt p2.isList hTa
    have k1 := rv.length
    have k2 := rv2.length
    have m1 : i ≤ its.toArray.size := by rw [List.size_toArray]; omega
    have m2 : i ≤ its2.toArray.size := by rw [List.size_toArray]; omega
    have m3 : i = its.toArray.size ∨ i = its2.toArray.size := by rw [List.size_toArray, List.size_toArray]; omega
    exact wpAny_pyNext_zipD2_end S (Draws.tuple (prog := X.prog) (w := X.w) (A := X.A.in1) (I.ok.hd hc) i1 a na1 its.toArray) (Draws.list (prog := X.prog) (w := X.w) (A := X.A.in1) (I.ok.hd hc) i2 b nb2 its2.toArray) hz hTI hTO ⟨h1, pt⟩ ⟨h2, p2.isList⟩ m1 m2 m3 fun h' tk hk => ⟨rfl, I.turnedL (t' := tk) (ch := [z, TI, TO, i1, i2]) (fun c o hb q =>
      hk c o (fun q' => hb (by simp [q'])) (fun q' => hb (by simp [q'])) (fun q' => hb (by simp [q'])) (fun q' => hb (by simp [q'])) q) hf⟩
  self := fun A i s Q E st h => wpAny_pyIter_zip st.1 h
def iZipM (K : PySem.W.Frag) (ta : TA) : TI := fun σ H R => ta σ H fun vs H1 => ∃ a b xs ys, vs = [.ref a, .ref b] ∧ SqT K H1 a xs ∧ SqL K H1 b ys ∧ R (ItzM K a b) H1
theorem pi_zipM {X : Cx} {K : PySem.W.Frag} (hKK : X.K = K) {e e2 : Expr} {ta : TA} {p pos tpos : Pos} {elts : List Expr} {kk : Nat} (hg : L2.Gl X "zip") (hm : X.mg "zip" = none) (ha : PA X [e, e2] ta)
    (hs : starEach [e, e2] X.env = (false, eval e X.env) :: starEach [e2] X.env := by rfl) (hpl : (backTo pos (starEach [e2] X.env)).any (·.1) = false := by rfl) :
    PI X (.Tuple elts kk tpos) (.Call (.Name "zip" p) [e, e2] [] pos) (iZipM K ta) := by
  subst hKK
  refine ⟨fun pins s σ H R I h => ?_⟩
  refine Call_ (ld_blt I hg hm PyProof.Rows.boot_zip (PyProof.Rows.callWith_type1 (thn (ha.run pos pins s σ H _ I h) fun us s1 ⟨vs, H1, I1, r1, q1⟩ => ?_) hs hpl))
  obtain ⟨a, b, xs, ys, ex, hqx, hqy, q⟩ := q1
  subst ex
  cases r1 with
  | cons r rr =>
    cases rr with
    | cons r' rr =>
      cases rr
      cases r
      cases r'
      obtain ⟨its, rv, p1, _⟩ := I1.tuple hqx
      obtain ⟨its2, rv2, p2, _⟩ := I1.list hqy
      obtain ⟨o1, ho1, _⟩ := id p1
      refine zip_begins2 (begins_tuple a its.toArray) (begins_list b its2.toArray) (show s1.heap.IsTuple a its.toArray from p1) p2.isList fun h' hz hTI hTO h1 h2 hsz hk => wpAny_pyIter_zip hz ?_
      have I2 : Inv X pins σ H1 { s1 with heap := h' } := I1.kept (t' := s1.toks) hk
      have C : Cells (s1.heap.objs.size + 4) (s1.heap.objs.size + 2) (s1.heap.objs.size + 3) s1.heap.objs.size (s1.heap.objs.size + 1) := by
        constructor <;> (intro e; have e : (_ : Nat) = _ := e; omega)
      have hTa : (s1.heap.objs.size + 3 : Nat) ≠ a := Nat.ne_of_gt (Nat.lt_of_lt_of_le (Heap.lt_size ho1) (Nat.le_add_right _ _))
      refine ⟨s1.heap.objs.size + 4, [s1.heap.objs.size + 4, s1.heap.objs.size + 2, s1.heap.objs.size + 3, s1.heap.objs.size, s1.heap.objs.size + 1], _, _, H1, rfl, I2, turn_zipM C hTa, ⟨hz, hTI, ⟨_, _, hTO⟩, ⟨_, h1, rfl, rfl⟩, ⟨_, h2, rfl, rfl⟩⟩, fun c hcm => ?_, q⟩
      have e' : c = s1.heap.objs.size + 4 ∨ c = s1.heap.objs.size + 2 ∨ c = s1.heap.objs.size + 3 ∨ c = s1.heap.objs.size ∨ c = s1.heap.objs.size + 1 := by simpa using hcm
      have hle : s1.heap.objs.size ≤ c := by
        rcases e' with rfl | rfl | rfl | rfl | rfl
        · exact Nat.le_add_right _ _
        · exact Nat.le_add_right _ _
        · exact Nat.le_add_right _ _
        · exact Nat.le_refl _
        · exact Nat.le_add_right _ _
      exact I1.fpOk hle (I1.hok.fresh hle)
end Ea
set_option Elab.async false
set_option linter.all false
set_option maxRecDepth 100000
set_option maxHeartbeats 400000
/-! Comprehensions over pairs, where nothing else is changed. -/
namespace Ea
open PySem PySem.Spec PyProof.Rows L2
section
variable {K : PySem.W.Frag} {σ : L2.St} {H : Hp} {Q : VK} {tt : TT} {te : TE} {vs : List Nat} {j1 j2 k : Nat} {σx : V → V → L2.St} {a b : Addr} {n : Nat} {px py : Nat → V} {f : Nat → Bool} {g : Nat → V} {J : It}
theorem range_snoc (f : Nat → Bool) (g : Nat → V) (i : Nat) : ((List.range (i + 1)).filter f).map g = ((List.range i).filter f).map g ++ (if f i = true then [g i] else []) := by
  rw [List.range_succ, List.filter_append, List.map_append]
  congr 1
  by_cases h : f i = true
  · rw [if_pos h, List.filter_cons, if_pos h] <;> rfl
  · rw [if_neg h, List.filter_cons, if_neg h] <;> rfl
abbrev TurnP (H : Hp) (tt : TT) (te : TE) (σx : V → V → L2.St) (px py : Nat → V) (f : Nat → Bool) (g : Nat → V) (i : Nat) : Prop :=
  ∀ (H' : Hp) (N : VK) (S : Hp → Prop), Evl.Ex H H' → (f i = true → ∀ H3, Evl.Ex H' H3 → N (g i) H3) → (f i = false → ∀ H3, Evl.Ex H' H3 → S H3) →
    tt (σx (px i) (py i)) H' fun b H2 => if b = true then te (σx (px i) (py i)) H2 N else S H2
theorem lc_pairs (hk : k = 2) (hz : n ≤ 40000) (go : ∀ i H', Evl.Ex H H' → i < n → J.go i H') (stop : ∀ H', Evl.Ex H H' → J.stop n H')
    (yld : ∀ i H1 x H2, Evl.Ex H H1 → i < n → J.yld i H1 x H2 → ∃ T, x = .ref T ∧ H1 T = none ∧ H2 = upd H1 T (.tup [px i, py i]))
    (hσ : ∀ x y, ((wipe σ vs).set j1 (some x)).set j2 (some y) = σx x y) (hw : ∀ x y, wipe (σx x y) vs = wipe σ vs)
    (hs : ∀ i, i < n → TurnP H tt te σx px py f g i)
    (hd : ∀ D H', Evl.Ex H H' → H D = none → H' D = some (.lst (((List.range n).filter f).map g)) → Q (.ref D) H') : LcR (gTup K k (gCons (gName j1) (gCons (gName j2) gNil))) tt te vs σ Q J H := fun D hn => by
  refine ⟨fun i m H' => i + m = n ∧ Evl.Ex H H' ∧ H' D = some (.lst (((List.range i).filter f).map g)), ⟨n, by omega, Evl.Ex.new hn, upd_same⟩, fun i m H' hW => ?_⟩
  obtain ⟨em, e, ed⟩ := hW
  have hlen : (((List.range i).filter f).map g).length < 100000 := by
    rw [List.length_map]
    have h1 := List.length_filter_le f (List.range i)
    rw [List.length_range] at h1
    omega
  by_cases hi : i < n
  · refine .inr ⟨go i H' e hi, fun H3 => Evl.Ex H H3 ∧ H3 D = some (.lst (((List.range (i + 1)).filter f).map g)), fun H3 h3 => ⟨m - 1, by omega, by omega, h3⟩, fun x H2 hy => ?_⟩
    obtain ⟨T, rfl, hT, rfl⟩ := yld i H' x H2 e hi hy
    have eT := Evl.Ex.new (o := .tup [px i, py i]) hT
    refine rd_gtup2 (x := px i) (y := py i) (SqT.of upd_same) hk (hσ _ _) ⟨hw _ _, hs i hi _ _ _ (e.trans eT) (fun hf H3 e3 => ?_) fun hf H3 e3 => ?_⟩
    · refine ⟨_, e3 D _ (eT D _ ed), Evl.sz_lt hlen, Evl.Ex.mut ((e.trans eT).trans e3) hn, ?_⟩
      rw [upd_same, range_snoc, if_pos hf]
    · refine ⟨(e.trans eT).trans e3, ?_⟩
      rw [range_snoc, if_neg (by rw [hf]; decide), List.append_nil]
      exact e3 D _ (eT D _ ed)
  · have hin : i = n := by omega
    subst hin
    exact .inl ⟨stop H' e, hd D H' e hn ed⟩
theorem lc_enumT {xs : List V} (hk : k = 2) (hx : SqT K H a xs) (hz : xs.length ≤ 40000) (hσ : ∀ x y, ((wipe σ vs).set j1 (some x)).set j2 (some y) = σx x y) (hw : ∀ x y, wipe (σx x y) vs = wipe σ vs)
    (f : Nat → Bool) (g : Nat → V) (hs : ∀ i, i < xs.length → TurnP H tt te σx (fun i => .int (i : Nat)) (fun i => xs.getD i .non) f g i)
    (hd : ∀ D H', Evl.Ex H H' → H D = none → H' D = some (.lst (((List.range xs.length).filter f).map g)) → Q (.ref D) H') : LcR (gTup K k (gCons (gName j1) (gCons (gName j2) gNil))) tt te vs σ Q (IteT K a) H :=
  lc_pairs hk hz (fun i H' e hi => ⟨xs, xs[i], Evl.ex_t e hx, List.getElem?_eq_getElem hi⟩) (fun H' e => ⟨xs, Evl.ex_t e hx, rfl⟩)
    (fun i H1 x H2 e hi hy => by
      obtain ⟨T, y, rfl, hT, rfl, h⟩ := hy
      have := h xs (Evl.ex_t e hx)
      refine ⟨T, rfl, hT, ?_⟩
      show _ = upd H1 T (.tup [.int (i : Nat), xs.getD i .non])
      rw [List.getD_eq_getElem?_getD, this] <;> rfl) hσ hw hs hd
theorem lc_enumL {xs : List V} (hk : k = 2) (hx : SqL K H a xs) (hz : xs.length ≤ 40000) (hσ : ∀ x y, ((wipe σ vs).set j1 (some x)).set j2 (some y) = σx x y) (hw : ∀ x y, wipe (σx x y) vs = wipe σ vs)
    (f : Nat → Bool) (g : Nat → V) (hs : ∀ i, i < xs.length → TurnP H tt te σx (fun i => .int (i : Nat)) (fun i => xs.getD i .non) f g i)
    (hd : ∀ D H', Evl.Ex H H' → H D = none → H' D = some (.lst (((List.range xs.length).filter f).map g)) → Q (.ref D) H') : LcR (gTup K k (gCons (gName j1) (gCons (gName j2) gNil))) tt te vs σ Q (Ite K a) H :=
  lc_pairs hk hz (fun i H' e hi => ⟨xs, xs[i], Evl.ex_l e hx, List.getElem?_eq_getElem hi⟩) (fun H' e => ⟨xs, Evl.ex_l e hx, Nat.le_refl _⟩)
    (fun i H1 x H2 e hi hy => by
      obtain ⟨T, y, rfl, hT, rfl, h⟩ := hy
      have := h xs (Evl.ex_l e hx)
      refine ⟨T, rfl, hT, ?_⟩
      show _ = upd H1 T (.tup [.int (i : Nat), xs.getD i .non])
      rw [List.getD_eq_getElem?_getD, this] <;> rfl) hσ hw hs hd
theorem lc_zipM {xs ys : List V} (hk : k = 2) (hx : SqT K H a xs) (hy : SqL K H b ys) (hl : xs.length = ys.length) (hz : xs.length ≤ 40000) (hσ : ∀ x y, ((wipe σ vs).set j1 (some x)).set j2 (some y) = σx x y) (hw : ∀ x y, wipe (σx x y) vs = wipe σ vs)
    (f : Nat → Bool) (g : Nat → V) (hs : ∀ i, i < xs.length → TurnP H tt te σx (fun i => xs.getD i .non) (fun i => ys.getD i .non) f g i)
    (hd : ∀ D H', Evl.Ex H H' → H D = none → H' D = some (.lst (((List.range xs.length).filter f).map g)) → Q (.ref D) H') : LcR (gTup K k (gCons (gName j1) (gCons (gName j2) gNil))) tt te vs σ Q (ItzM K a b) H :=
  lc_pairs hk hz (fun i H' e hi => ⟨xs, ys, xs[i], ys[i]'(hl ▸ hi), Evl.ex_t e hx, Evl.ex_l e hy, List.getElem?_eq_getElem hi, List.getElem?_eq_getElem (hl ▸ hi)⟩)
    (fun H' e => ⟨xs, ys, Evl.ex_t e hx, Evl.ex_l e hy, Nat.le_refl _, by omega, .inl rfl⟩)
    (fun i H1 x H2 e hi hq => by
      obtain ⟨T, u, v, rfl, hT, rfl, h1, h2⟩ := hq
      have q1 := h1 xs (Evl.ex_t e hx)
      have q2 := h2 ys (Evl.ex_l e hy)
      refine ⟨T, rfl, hT, ?_⟩
      show _ = upd H1 T (.tup [xs.getD i .non, ys.getD i .non])
      rw [List.getD_eq_getElem?_getD, q1, List.getD_eq_getElem?_getD, q2] <;> rfl) hσ hw hs hd
variable {R : It → Hp → Prop} {ta : TA}
theorem rd_iRng2 (h : ta σ H fun vs H1 => ∃ i j : Int, vs = [.int i, .int j] ∧ (-(2 ^ 62) ≤ i ∧ i < 2 ^ 62 ∧ -(2 ^ 62) ≤ j ∧ j < 2 ^ 62) ∧ R (Itr i (j - i).toNat) H1) : iRng2 ta σ H R := h
theorem rd_iEnumT (h : ta σ H fun vs H1 => ∃ a xs, vs = [.ref a] ∧ SqT K H1 a xs ∧ R (IteT K a) H1) : iEnumT K ta σ H R := h
theorem rd_iEnum (h : ta σ H fun vs H1 => ∃ a xs, vs = [.ref a] ∧ SqL K H1 a xs ∧ R (Ite K a) H1) : iEnum K ta σ H R := h
theorem rd_iZipM (h : ta σ H fun vs H1 => ∃ a b xs ys, vs = [.ref a, .ref b] ∧ SqT K H1 a xs ∧ SqL K H1 b ys ∧ R (ItzM K a b) H1) : iZipM K ta σ H R := h
end
section
variable {X : Cx} {K : PySem.W.Frag}
theorem pi_enumL (hKK : X.K = K) {e : Expr} {ta : TA} {p pos tpos : Pos} {elts : List Expr} {kk : Nat} (hg : L2.Gl X "enumerate") (hm : X.mg "enumerate" = none) (ha : PA X [e] ta) (hs : starEach [e] X.env = [(false, eval e X.env)] := by rfl) :
    PI X (.Tuple elts kk tpos) (.Call (.Name "enumerate" p) [e] [] pos) (iEnum K ta) := hKK ▸ pi_enum hg hm ha hs
theorem pgk_tup (hKK : X.K = K) {pos : Pos} {es : List Expr} {k : Nat} {t : TGs} {n : Nat} (hc : X.calm = true) (h : PGs X es t)
    (hn : (assignEach es X.env).length = n := by rfl) (hst : (assignEach es X.env).findIdx? (·.1) = none := by rfl) : PG X (.Tuple es k pos) (gTup K n t) := hKK ▸ pg_tup hc h hn hst
end
end Ea
set_option Elab.async false
set_option linter.all false
set_option maxRecDepth 100000
set_option maxHeartbeats 400000
/-! sorted by key=abs, a tuple whose object is known, dict of it, all, comprehensions and loops over tuples of pairs. -/
namespace Ea
open PySem PySem.Spec PyProof.Rows L2

/-! ### sorted(xs, key=abs) of a list of ints -/
def rSortAbs (K : PySem.W.Frag) : List V → Hp → VK → Prop := fun xs H Q => ∃ (a : Addr) (ns : List Int), xs = [.ref a] ∧ SqL K H a (ns.map V.int) ∧
  ∀ (ms : List Int) (p : Addr), ms.Perm ns → ms.Pairwise (fun x y => x.natAbs ≤ y.natAbs) → H p = none → Q (.ref p) (upd H p (.lst (ms.map V.int)))
theorem each_of_ints : ∀ {its : List Value} {ns : List Int}, Vals (ns.map V.int) its → PySem.W.EachIs (fun v x => ∃ t, v = Value.int x t) its ns
  | _, [], r => by
    cases r
    exact .nil
  | _, n :: ns, r => by
    rw [List.map_cons] at r
    cases r with
    | cons h t => exact .cons h (each_of_ints t)
theorem vals_of_each : ∀ {its : List Value} {ns : List Int}, PySem.W.EachIs (fun v x => ∃ t, v = Value.int x t) its ns → Vals (ns.map V.int) its
  | _, _, .nil => .nil
  | _, _, .cons h t => .cons h (vals_of_each t)
theorem sort_absK {X : Cx} {K : PySem.W.Frag} (hK : X.K = K) (hu : X.A.units + 64 < cLine) {pins : List (Addr × Obj)} {s : Shared} {σ : L2.St} {H : Hp} {xs : List V} {us : List Value} {Q : VK}
    (I : Inv X pins σ H s) (r : Vals xs us) (h : rSortAbs K xs H Q) : wpAny (model X.prog X.w) X.A (call (.builtin "sorted") us [(Str.ofString "key", .builtin "abs")]) (EP X pins σ Q) X.xe s := by
  subst hK
  obtain ⟨a, ns, rfl, hs, q⟩ := h
  rw [Vals.ref1 r]
  obtain ⟨its, rv, hl, hz⟩ := I.list hs
  have hlen : ns.length ≤ sizeLine := by
    rw [List.length_map] at hz
    exact hz
  refine PySem.W.sorted_key_data (β := Int) (R := fun v x => ∃ t, v = Value.int x t) (bs := ns) (b := false) (f := .builtin "abs") (fun n => .int (n.natAbs : Int)) hl.isList (each_of_ints rv) ?_ ?_ hlen (fun x _ => ?_)
    (PyProof.Rows.ksk_s1 _ _) (fun _ => PyProof.Rows.ksk_l1 _ _) (fun x => PyProof.Rows.ksk_t4 "abs" x) (fun v x hv hx h tk kp => ?_) fun out c h' tk kp hf hD ho he => ?_
  · intro d hd d' hd'
    obtain ⟨x, _, rfl⟩ := List.mem_map.mp hd
    obtain ⟨y, _, rfl⟩ := List.mem_map.mp hd'
    rfl
  · refine .inr fun d hd => ?_
    obtain ⟨x, _, rfl⟩ := List.mem_map.mp hd
    exact ⟨nofun, nofun⟩
  · have e : (PyData.int (x.natAbs : Int)).depth = 0 := rfl
    omega
  · obtain ⟨t, rfl⟩ := hv
    refine call_abs_int fun u tk' => ⟨h, tk', rfl, fun _ _ e => e, ?_⟩
    have e : (if x < 0 then -x else x) = (x.natAbs : Int) := by split <;> omega
    rw [e]
    exact .int _ _
  · rw [PySem.W.dataLe_int (β := Int) fun n => (n.natAbs : Int)] at he
    generalize hm : ns.mergeSort (fun a b => decide ((a.natAbs : Int) ≤ (b.natAbs : Int))) = ms at he
    have pm : ms.Perm ns := hm ▸ List.mergeSort_perm _ _
    have so : ms.Pairwise fun x y => x.natAbs ≤ y.natAbs := by
      rw [← hm]
      refine (List.pairwise_mergeSort (le := fun a b : Int => decide ((a.natAbs : Int) ≤ (b.natAbs : Int))) (fun a b c h1 h2 => ?_) (fun a b => ?_) ns).imp fun {a b} h => ?_
      · have := of_decide_eq_true h1
        have := of_decide_eq_true h2
        exact decide_eq_true (by omega)
      · rw [Bool.or_eq_true, decide_eq_true_eq, decide_eq_true_eq]
        omega
      · have := of_decide_eq_true h
        omega
    have hl2 : (ms.map V.int).length ≤ sizeLine := by
      rw [List.length_map, pm.length_eq]
      exact hlen
    exact ⟨.ref _, upd H (s.heap.objs.size + 1) (.lst (ms.map V.int)), I.laid (t' := tk) kp (Nat.le_succ _) ⟨hl2, out, c, vals_of_each he, hD⟩, rfl, q _ _ pm so (I.hok.fresh (Nat.le_succ _))⟩
theorem pe_sortAbs {X : Cx} {K : PySem.W.Frag} {e : Expr} {ta : TA} {p pos kpos apos : Pos} (hK : X.K = K) (hu : X.A.units + 64 < cLine) (hg : L2.Gl X "sorted") (hm : X.mg "sorted" = none) (hga : L2.Gl X "abs") (hma : X.mg "abs" = none) (ha : PA X [e] ta)
    (he : backTo pos (starEach [e] X.env) = (false, eval e X.env) :: backTo pos (starEach [] X.env) := by rfl) (hpl : (backTo pos (starEach [e] X.env)).any (·.1) = false := by rfl)
    (hall : (backToKw pos (keywordEach [⟨some "key", .Name "abs" apos, kpos⟩] X.env)).all (·.1.isSome) = true := by rfl) (hnone : (backToKw pos (keywordEach [⟨some "key", .Name "abs" apos, kpos⟩] X.env)).any (·.1.isNone) = false := by rfl) (hks : (backToKw pos (keywordEach [⟨some "key", .Name "abs" apos, kpos⟩] X.env)).filterMap (·.1) = [Str.ofString "key"] := by rfl) :
    PE X (.Call (.Name "sorted" p) [e] [⟨some "key", .Name "abs" apos, kpos⟩] pos) (tCB (rSortAbs K) ta) := by
  refine ⟨fun pins s σ H Q I h => ?_⟩
  refine wpAny_Call_Name_kw (ld_blt (u := .builtin "sorted") I hg hm rfl ?_)
  refine PyProof.Rows.callWith_kw (thn (ha.run pos pins s σ H _ I h) fun us s1 ⟨vs, H1, I1, r1, q1⟩ => ?_) he hpl hall hnone
  rw [hks]
  show wpAny _ _ (evalAll [do let v ← eval (.Name "abs" apos) X.env; standAt pos; pure v]) _ _ s1
  refine wpAny_evalAll_cons (wpAny_bind (ld_blt (u := .builtin "abs") I1 hga hma rfl (wpAny_bind (wpAny_standAt (wpAny_pure ?_)))))
  exact wpAny_evalAll_nil (sort_absK hK hu I1 r1 q1)
theorem rd_sortAbs {K : PySem.W.Frag} {H : Hp} {Q : VK} {a : Addr} {ns : List Int} (s : SqL K H a (ns.map V.int))
    (h : ∀ (ms : List Int) (p : Addr), ms.Perm ns → ms.Pairwise (fun x y => x.natAbs ≤ y.natAbs) → H p = none → Q (.ref p) (upd H p (.lst (ms.map V.int)))) : rSortAbs K [.ref a] H Q := ⟨a, ns, rfl, s, h⟩

/-! ### a tuple whose object is known -/
def Fz (H : Hp) (a : Addr) (xs : List V) : Prop := ∃ o, H a = some (.frz o (.tup xs)) ∧ o.dict = none
theorem Fz.sq {K : PySem.W.Frag} {H : Hp} {a : Addr} {xs : List V} (h : Fz H a xs) : SqT K H a xs := by
  obtain ⟨o, h, _⟩ := h
  exact .inl (.inr ⟨o, h⟩)
def rTupFz (K : PySem.W.Frag) : List V → Hp → VK → Prop := fun xs H Q => ∃ p ys, xs = [.ref p] ∧ SqL K H p ys ∧ ∀ (l : Addr) (o : Obj), H l = none → o.dict = none → Q (.ref l) (upd H l (.frz o (.tup ys)))
theorem c_tupFz {X : Cx} {K : PySem.W.Frag} (hK : X.K = K) : CallR X (.type "tuple") (rTupFz K) := by
  subst hK
  intro pins s σ H xs us Q I r h
  obtain ⟨p, ys, rfl, hq, q⟩ := h
  obtain ⟨u, rfl, rx⟩ := vals1 r
  cases rx
  obtain ⟨its, r', pl, hz⟩ := I.list hq
  have hlen := r'.length
  refine call_tuple_list pl.isList (fun h' kp => ?_) (by simp only [List.size_toArray] <;> omega)
  have I1 : Inv X pins σ H { s with heap := h' } := I.kept (t' := s.toks) kp
  have I2 : Inv X pins σ (upd H h'.objs.size (.frz { cls := .type "tuple", data := .seq its.toArray } (.tup ys))) { s with heap := h'.push { cls := .type "tuple", data := .seq its.toArray } } :=
    I1.laid (t' := s.toks) (fun b o e => Heap.get?_push_of_some _ e) (Nat.le_refl _) (show ObjOk X.prog X.w _ _ _ (.frz _ (.tup ys)) from ⟨Heap.get?_push_size _ rfl, hz, its, r', IsTup.new _ _⟩)
  exact ⟨.ref h'.objs.size, _, I2, rfl, q _ _ (I1.hok.fresh (Nat.le_refl _)) rfl⟩
theorem rd_tupFz {K : PySem.W.Frag} {H : Hp} {Q : VK} {p : Addr} {ys : List V} (s : SqL K H p ys) (h : ∀ (l : Addr) (o : Obj), H l = none → o.dict = none → Q (.ref l) (upd H l (.frz o (.tup ys)))) : rTupFz K [.ref p] H Q := ⟨p, ys, rfl, s, h⟩

/-! ### dict of such a tuple of pairs -/
def rDictFz (K : PySem.W.Frag) : List V → Hp → VK → Prop := fun xs H Q => ∃ (a : Addr) (ps : List Addr) (kvs : List (Key × V)), xs = [.ref a] ∧ Fz H a (ps.map V.ref) ∧ Paired (fun p kv => SqT K H p [kV kv.1, kv.2]) ps kvs ∧
    ∀ p, H p = none → Q (.ref p) (upd H p (.dK (mergeK [] kvs)))
theorem c_dictFz {X : Cx} {K : PySem.W.Frag} (hK : X.K = K) (hcalm : X.calm = true) : CallR X (.type "dict") (rDictFz K) := by
  subst hK
  intro pins s σ H xs us Q I r q
  obtain ⟨a, ps, kvs, ex, ⟨o, ho, hod⟩, hp, q⟩ := q
  subst ex
  obtain ⟨u, eu, rx⟩ := vals1 r
  subst eu
  cases rx
  obtain ⟨hoa, hz, its, rv, pl⟩ := I.hok a _ ho
  have ei := refs_at rv
  subst ei
  rw [List.length_map] at hz
  obtain ⟨prs, rel, hl, hpr⟩ := pairs_of I hp
  obtain ⟨o2, ho2, hc, n, hdat⟩ := pl
  rw [hoa] at ho2
  cases ho2
  have hps : (prs.map fun q => ((default : Value), q.2)).length = prs.length := List.length_map _
  have hun : ∀ (j : Nat) (q : Key × Value), prs[j]? = some q → ∃ (b : Addr) (u : Value), ps[j]? = some b ∧ IsTup s.heap b #[u, q.2] ∧ keyIs q.1 u = true := hpr
  -- the pairs as values
  have hex : ∃ pv : List (Value × Value), pv.length = prs.length ∧ ∀ (j : Nat) (k v : Value), pv[j]? = some (k, v) → ∃ b q, prs[j]? = some q ∧ q.2 = v ∧ ps[j]? = some b ∧ IsTup s.heap b #[k, v] ∧ keyIs q.1 k = true := by
    clear rel hps
    have key : ∀ (m : Nat), m ≤ prs.length → ∃ pv : List (Value × Value), pv.length = m ∧ ∀ (j : Nat) (k v : Value), pv[j]? = some (k, v) → ∃ b q, prs[j]? = some q ∧ q.2 = v ∧ ps[j]? = some b ∧ IsTup s.heap b #[k, v] ∧ keyIs q.1 k = true := by
      intro m
      induction m with
      | zero => exact fun _ => ⟨[], rfl, fun j k v e => by simp at e⟩
      | succ m ih =>
        intro hm
        obtain ⟨pv, e1, e2⟩ := ih (by omega)
        have hj : prs[m]? = some prs[m] := List.getElem?_eq_getElem (by omega)
        obtain ⟨b, u, h1, h2, h3⟩ := hun m _ hj
        refine ⟨pv ++ [(u, prs[m].2)], by rw [List.length_append, e1] <;> rfl, fun j k v e => ?_⟩
        by_cases c : j < m
        · rw [List.getElem?_append_left (by omega)] at e
          exact e2 j k v e
        · rw [List.getElem?_append_right (by omega), e1] at e
          have : j = m := by
            have := (List.getElem?_eq_some_iff.mp e).1
            rw [List.length_singleton] at this
            omega
          subst this
          rw [Nat.sub_self] at e
          cases Option.some.inj e
          exact ⟨b, prs[j], hj, rfl, h1, h2, h3⟩
    exact key _ (Nat.le_refl _)
  obtain ⟨pv, hpv, hpv2⟩ := hex
  have P := PySem.PairArg.tuple (prog := X.prog) (w := X.w) a (ps.map Value.ref).toArray (fun j => ps.getD j 0) pv
  refine PySem.call_dict_pairs (knd := mixKind X.prog X.w) (kvs := prs) P (I.ok.hd hcalm) ⟨⟨o, n, hoa, hc, hod, hdat⟩, ?_, ?_⟩ ⟨hpv.symm, ?_⟩ (by rw [hpv, hl]; exact hz) fun h' tk hd' k => ?_
  · rw [List.size_toArray, List.length_map, hpv, hl]
  · intro j k v e
    obtain ⟨b, q2, h1, h2, h3, h4, h5⟩ := hpv2 j k v e
    have e3 : ps.getD j 0 = b := by rw [List.getD_eq_getElem?_getD, h3] <;> rfl
    refine ⟨by show (ps.map Value.ref).toArray[j]? = some (Value.ref (ps.getD j 0)); rw [e3]; simp [h3], .inl ?_⟩
    show s.heap.IsTuple (ps.getD j 0) #[k, v]
    rw [e3]
    exact h4
  · intro j k v e
    obtain ⟨b, q2, h1, h2, h3, h4, h5⟩ := hpv2 j k v e
    exact ⟨q2.1, by rw [h1, ← h2], h5⟩
  · have hm : (s.heap.objs.size == sysModules) = false := beq_eq_false_iff_ne.mpr (Nat.ne_of_gt I.big)
    have hlen : (mergeK [] kvs).length ≤ sizeLine := by
      refine Nat.le_trans (length_mergeK kvs []) ?_
      rw [List.length_nil, Nat.zero_add, rel.length, hl]
      exact hz
    exact ⟨.ref s.heap.objs.size, upd H s.heap.objs.size (.dK (mergeK [] kvs)), I.laid (t' := tk) (fun b o e => k b o (fun h => nomatch h) e) (Nat.le_refl _) (show ObjOk X.prog X.w _ _ _ (.dK (mergeK [] kvs)) from ⟨hlen, hm, merged [] prs, KV.merge rel .nil, hd'⟩), rfl, q _ (I.hok.fresh (Nat.le_refl _))⟩
theorem rd_dictFz {K : PySem.W.Frag} {H : Hp} {Q : VK} {a : Addr} {ps : List Addr} {kvs : List (Key × V)} (s : Fz H a (ps.map V.ref)) (hp : Paired (fun p kv => SqT K H p [kV kv.1, kv.2]) ps kvs)
    (h : ∀ p, H p = none → Q (.ref p) (upd H p (.dK (mergeK [] kvs)))) : rDictFz K [.ref a] H Q := ⟨a, ps, kvs, rfl, s, hp, h⟩

/-! ### all -/
theorem c_all {X : Cx} {K : PySem.W.Frag} (h : X.K = K) (hc : X.calm = true) : CallR X (.builtin "all") (rAll K) := h ▸ cr_all hc
theorem c_any {X : Cx} {K : PySem.W.Frag} (h : X.K = K) (hc : X.calm = true) : CallR X (.builtin "any") (rAny K) := h ▸ cr_any hc
theorem rd_all {K : PySem.W.Frag} {H : Hp} {Q : VK} {a : Addr} {bs : List Bool} (s : SqL K H a (bs.map V.bl)) (h : Q (.bl (bs.all id)) H) : rAll K [.ref a] H Q := ⟨a, bs, rfl, s, h⟩
theorem rd_any {K : PySem.W.Frag} {H : Hp} {Q : VK} {a : Addr} {bs : List Bool} (s : SqL K H a (bs.map V.bl)) (h : Q (.bl (bs.any id)) H) : rAny K [.ref a] H Q := ⟨a, bs, rfl, s, h⟩

/-! ### repr of an int -/
def rReprI : List V → Hp → VK → Prop := fun xs H Q => ∃ i : Int, xs = [.int i] ∧ i.natAbs.log2 < 1920 ∧ Q (.str (toString i)) H
theorem c_reprI {X : Cx} : CallR X (.builtin "repr") rReprI := SkE.call_repr_int
theorem rd_reprI {i : Int} {H : Hp} {Q : VK} (h1 : i.natAbs < 10 ^ 12) (h : Q (.str (toString i)) H) : rReprI [.int i] H Q := ⟨i, rfl, log2_small h1, h⟩

/-! ### data without lists stay where tuples stay -/
mutual
def noL : PyData → Bool
  | .list _ => false
  | .dict _ => false
  | .tuple ds => noLs ds
  | _ => true
def noLs : List PyData → Bool
  | [] => true
  | d :: ds => noL d && noLs ds
end
mutual
theorem dp_mono {K : PySem.W.Frag} {H H' : Hp} (e : ∀ a xs, SqT K H a xs → SqT K H' a xs) : ∀ (d : PyData) (v : V), noL d = true → Dp K H v d → Dp K H' v d
  | .none, _, _, h => by cases h; exact .non
  | .bool b, _, _, h => by cases h; exact .bl b
  | .int i, _, _, h => by cases h; exact .int i
  | .str x, _, _, h => by cases h; exact .str x
  | .list _, _, c, _ => nomatch c
  | .tuple ds, _, c, h => by
    cases h with
    | tup hs ha => exact .tup (e _ _ hs) (dps_mono e ds _ c ha)
  | .dict _, _, c, _ => nomatch c
theorem dps_mono {K : PySem.W.Frag} {H H' : Hp} (e : ∀ a xs, SqT K H a xs → SqT K H' a xs) : ∀ (ds : List PyData) (vs : List V), noLs ds = true → DpAll K H vs ds → DpAll K H' vs ds
  | [], _, _, h => by cases h; exact .nil
  | d :: ds, _, c, h => by
    have c2 : noL d = true ∧ noLs ds = true := Bool.and_eq_true _ _ ▸ c
    cases h with
    | cons h1 h2 => exact .cons (dp_mono e d _ c2.1 h1) (dps_mono e ds _ c2.2 h2)
end
theorem noLs_all : ∀ {ds : List PyData}, (∀ d ∈ ds, noL d = true) → noLs ds = true
  | [], _ => rfl
  | d :: ds, h => by
    show (noL d && noLs ds) = true
    rw [h d List.mem_cons_self, noLs_all fun x hx => h x (List.mem_cons_of_mem _ hx)] <;> rfl

/-! ### walks over tuples of pairs -/
section
variable {K : PySem.W.Frag} {σ : L2.St} {H : Hp} {Q : VK} {tt : TT} {te : TE} {tb : TS} {D : Ends} {vs : List Nat} {j1 j2 k : Nat} {σx : V → V → L2.St} {a : Addr} {px py : Nat → V} {f : Nat → Bool} {g : Nat → V}
theorem lc_prT {xs : List V} (hk : k = 2) (hx : SqT K H a xs) (hz : xs.length ≤ 40000) (hp : ∀ i, i < xs.length → ∃ T, xs[i]? = some (.ref T) ∧ SqT K H T [px i, py i])
    (hσ : ∀ x y, ((wipe σ vs).set j1 (some x)).set j2 (some y) = σx x y) (hw : ∀ x y, wipe (σx x y) vs = wipe σ vs) (hs : ∀ i, i < xs.length → TurnP H tt te σx px py f g i)
    (hd : ∀ D H', Evl.Ex H H' → H D = none → H' D = some (.lst (((List.range xs.length).filter f).map g)) → Q (.ref D) H') : LcR (gTup K k (gCons (gName j1) (gCons (gName j2) gNil))) tt te vs σ Q (Itt K a) H := fun D hn =>
  lc_tup (xs := xs) (fun i H' => Evl.Ex H H' ∧ H' D = some (.lst (((List.range i).filter f).map g))) ⟨Evl.Ex.new hn, upd_same⟩ (fun i H' _ ⟨ex, _⟩ => Evl.ex_t ex hx) (fun i x H' hi p => by
    obtain ⟨e, ed⟩ := p
    have hil := (List.getElem?_eq_some_iff.mp hi).1
    obtain ⟨T, hT, sT⟩ := hp i hil
    rw [hT] at hi
    cases hi
    have hlen : (((List.range i).filter f).map g).length < 100000 := by
      rw [List.length_map]
      have h1 := List.length_filter_le f (List.range i)
      rw [List.length_range] at h1
      omega
    refine rd_gtup2 (x := px i) (y := py i) (Evl.ex_t e sT) hk (hσ _ _) ⟨hw _ _, hs i hil _ _ _ e (fun hf H3 e3 => ?_) fun hf H3 e3 => ?_⟩
    · refine ⟨_, e3 D _ ed, Evl.sz_lt hlen, Evl.Ex.mut (e.trans e3) hn, ?_⟩
      rw [upd_same, range_snoc, if_pos hf]
    · refine ⟨e.trans e3, ?_⟩
      rw [range_snoc, if_neg (by rw [hf]; decide), List.append_nil]
      exact e3 D _ ed) fun H' p => hd D H' p.1 hn p.2
theorem fr_tupP {xs : List V} {px py : Nat → V} (hk : k = 2) (Pv : Nat → L2.St → Hp → Prop) (h0 : Pv 0 σ H) (hl : ∀ i σ H, i ≤ xs.length → Pv i σ H → SqT K H a xs)
    (hs : ∀ i σ H, i < xs.length → Pv i σ H → ∃ T, xs[i]? = some (.ref T) ∧ SqT K H T [px i, py i] ∧ tb { D with nx := Pv (i + 1), ct := Pv (i + 1), bk := D.nx } ((σ.set j1 (some (px i))).set j2 (some (py i))) H) (hd : ∀ σ H, Pv xs.length σ H → D.nx σ H) :
    ForR (gTup K k (gCons (gName j1) (gCons (gName j2) gNil))) tb D σ (Itt K a) H := for_tup Pv h0 hl (fun i x σ H hi p => by
      obtain ⟨T, hT, sT, q⟩ := hs i σ H (List.getElem?_eq_some_iff.mp hi).1 p
      rw [hT] at hi
      cases hi
      exact rd_gtup2 sT hk rfl q) hd
/-- a comprehension over a range, nothing else being changed -/
theorem lc_fmR {lo : Int} {n j : Nat} {σx : V → L2.St} (f : Nat → Bool) (g : Nat → V) (hz : n ≤ 40000) (hσ : ∀ x, (wipe σ vs).set j (some x) = σx x) (hw : ∀ x, wipe (σx x) vs = wipe σ vs)
    (hs : ∀ i, i < n → ∀ (H' : Hp) (N : VK) (S : Hp → Prop), Evl.Ex H H' → (f i = true → ∀ H3, Evl.Ex H' H3 → N (g i) H3) → (f i = false → ∀ H3, Evl.Ex H' H3 → S H3) →
      tt (σx (.int (lo + i))) H' fun b H2 => if b = true then te (σx (.int (lo + i))) H2 N else S H2)
    (hd : ∀ D H', Evl.Ex H H' → H D = none → H' D = some (.lst (((List.range n).filter f).map g)) → Q (.ref D) H') : LcR (gName j) tt te vs σ Q (Itr lo n) H := fun D hn =>
  lc_range (fun i H' => Evl.Ex H H' ∧ H' D = some (.lst (((List.range i).filter f).map g))) ⟨Evl.Ex.new hn, upd_same⟩ (fun i H' hi p => by
    obtain ⟨e, ed⟩ := p
    have hlen : (((List.range i).filter f).map g).length < 100000 := by
      rw [List.length_map]
      have h1 := List.length_filter_le f (List.range i)
      rw [List.length_range] at h1
      omega
    rw [show gName j (.int (lo + i)) (wipe σ vs) H' = fun N => N (σx (.int (lo + i))) H' from funext fun N => by rw [← hσ (.int (lo + i))] <;> rfl]
    refine ⟨hw _, hs i hi _ _ _ e (fun hf H3 e3 => ?_) fun hf H3 e3 => ?_⟩
    · refine ⟨_, e3 D _ ed, Evl.sz_lt hlen, Evl.Ex.mut (e.trans e3) hn, ?_⟩
      rw [upd_same, range_snoc, if_pos hf]
    · refine ⟨e.trans e3, ?_⟩
      rw [range_snoc, if_neg (by rw [hf]; decide), List.append_nil]
      exact e3 D _ ed) fun H' p => hd D H' p.1 hn p.2
end
end Ea
set_option Elab.async false
set_option linter.all false
set_option maxRecDepth 100000
set_option maxHeartbeats 1000000
/-! enumerate of a text; list of a dict; walks over a locked dict's keys; triples. -/
namespace Ea
open PySem PySem.Spec PyProof.Rows L2
/-- the text z, each sign in a new pair -/
def IteS (z : Str) : It :=
  ⟨fun i _ => i < z.cps.size, fun i H v H' => ∃ T c, v = .ref T ∧ H T = none ∧ H' = upd H T (.tup [.int (i : Nat), .str ⟨#[c]⟩]) ∧ z.cps[i]? = some c, fun i _ => i = z.cps.size⟩
theorem turn_enumS {P : Program} {w : World} {K : PySem.W.Frag} {elts : List Expr} {kk : Nat} {tpos : Pos} (z : Str) (tz : Tok) (e it : Addr) :
    L2.Turn P w K (.Tuple elts kk tpos) (IteS z) [e, it] e (fun i h => (∃ old, IsEnum h e it ((i : Nat) : Int) old) ∧ h.IsStrIter it (strIterType z) z tz i ∧ e ≠ it) where
  mem := by simp
  obj := fun i h st b hb => by
    obtain ⟨⟨old, he⟩, ⟨o, ho, hc, hd⟩, _⟩ := st
    have e' : b = e ∨ b = it := by simpa using hb
    rcases e' with rfl | rfl
    · exact ⟨_, he, fun v q => nomatch q⟩
    · exact ⟨o, ho, fun v q => by rw [hd] at q; cases q⟩
  keep := fun i h h' st k => let ⟨⟨old, he⟩, hi, hne⟩ := st; ⟨⟨old, k e (by simp) _ he⟩, let ⟨o, ho, r⟩ := hi; ⟨o, k it (by simp) o ho, r⟩, hne⟩
  item := by
    intro X hP hw hK hc i pins s σ H E I hf st hg
    subst hP hw hK
    obtain ⟨⟨old, he⟩, hit, hne⟩ := st
    have hg : i < z.cps.size := hg
    obtain ⟨oi, hoi, hci, _⟩ := id hit
    have hel : e < s.heap.objs.size := Heap.lt_size he
    have hil : it < s.heap.objs.size := Heap.lt_size hoi
    refine wpAny_pyNext_enum_itemD (Draws.text (prog := X.prog) (w := X.w) (A := X.A.in1) (I.ok.hd hc) it z tz) he hit hg hne (by simp [hne]) fun x' h' tk hP ho st' hT hsz hk => ?_
    obtain ⟨c, u, hcx, rfl⟩ := hP
    refine ⟨_, rfl, wpAny_letOwnedTupleGo_enum (s := { s with heap := h', toks := tk + 1 }) ho fun h'' he' sb => ?_⟩
    have hT2 : h''.get? s.heap.objs.size = some { cls := .type "tuple", data := .seq #[.int i tk, .str ⟨#[c]⟩ u] } := (sb.2 _ (Nat.ne_of_gt hel)).trans hT
    have new : ObjOk X.prog X.w (upd H s.heap.objs.size (.tup [.int (i : Nat), .str ⟨#[c]⟩])) h'' s.heap.objs.size (.tup [.int (i : Nat), .str ⟨#[c]⟩]) :=
      ⟨by show 2 ≤ sizeLine; decide, [.int i tk, .str ⟨#[c]⟩ u], .cons ⟨_, rfl⟩ (.cons ⟨_, rfl⟩ .nil), ⟨_, hT2, rfl, _, rfl⟩⟩
    have I1 : Inv X pins σ (upd H s.heap.objs.size (.tup [.int (i : Nat), .str ⟨#[c]⟩])) { s with heap := h'', toks := tk + 1 } :=
      I.turnedNew (ch := [e, it]) (fun b ob hb q => (sb.2 b (fun z => hb (by simp [z]))).trans (hk b ob (fun z => hb (by simp [z])) (fun z => hb (by simp [z])) q)) hf (Nat.le_refl _) new
    refine ⟨.ref s.heap.objs.size, _, I1, rfl, ⟨_, c, rfl, I.hok.fresh (Nat.le_refl _), rfl, hcx⟩, ⟨⟨.str ⟨#[c]⟩ u, ?_⟩, (let ⟨o, ho, r⟩ := st'; ⟨o, (sb.2 it (Ne.symm hne)).trans ho, r⟩), hne⟩, fun b hb => ?_⟩
    · have e1 : ((i + 1 : Nat) : Int) = (i : Int) + 1 := by omega
      rw [e1]
      exact he'
    · have hb' : b < s.heap.objs.size := by
        have e' : b = e ∨ b = it := by simpa using hb
        rcases e' with rfl | rfl
        · exact hel
        · exact hil
      rw [upd_ne (Nat.ne_of_lt hb')]
      exact (hf b hb).1
  done := by
    intro X hP hw hK hc i pins s σ H E I hf st hg
    subst hP hw hK
    obtain ⟨⟨old, he⟩, hit, hne⟩ := st
    have hg : i = z.cps.size := hg
    obtain ⟨f0, f1, f2, f3, f4, f5⟩ := hf it (by simp)
    exact wpAny_pyNext_enum_endD (Draws.text (prog := X.prog) (w := X.w) (A := X.A.in1) (I.ok.hd hc) it z tz) he (hg ▸ hit) fun h' eb => ⟨rfl, I.turned (t' := s.toks) (fun b o hb q => eb b o hb q) f0 f1 f3 f4 f5⟩
  self := fun A i s Q E st h => let ⟨⟨_, he⟩, _⟩ := st; wpAny_pyIter_enum he h
def iEnumS (ta : TA) : TI := fun σ H R => ta σ H fun vs H1 => ∃ z, vs = [.str z] ∧ R (IteS z) H1
theorem pi_enumS {X : Cx} {e : Expr} {ta : TA} {p pos tpos : Pos} {elts : List Expr} {kk : Nat} (hg : L2.Gl X "enumerate") (hm : X.mg "enumerate" = none) (ha : PA X [e] ta) (hs : starEach [e] X.env = [(false, eval e X.env)] := by rfl) :
    PI X (.Tuple elts kk tpos) (.Call (.Name "enumerate" p) [e] [] pos) (iEnumS ta) := by
  refine ⟨fun pins s σ H R I h => ?_⟩
  refine Call_ (ld_blt I hg hm boot_enumerate (PyProof.Rows.callWith_type1 (thn (ha.run pos pins s σ H _ I h) fun us s1 ⟨vs, H1, I1, r1, q1⟩ => ?_) hs rfl))
  obtain ⟨z, ex, q⟩ := q1
  subst ex
  cases r1 with
  | cons r rr =>
    cases rr
    obtain ⟨tz, rfl⟩ := r
    refine call_enum1 (begins_text z tz) True.intro fun h' he hit hk => wpAny_pyIter_enum he ?_
    have I2 : Inv X pins σ H1 { s1 with heap := h' } := I1.kept (t' := s1.toks) hk
    refine ⟨s1.heap.objs.size + 1, [s1.heap.objs.size + 1, s1.heap.objs.size], _, _, H1, rfl, I2, turn_enumS z tz (s1.heap.objs.size + 1) s1.heap.objs.size, ⟨⟨.none, he⟩, ⟨_, hit, rfl, rfl⟩, Nat.succ_ne_self _⟩, fun b hb => ?_, q⟩
    have e' : b = s1.heap.objs.size + 1 ∨ b = s1.heap.objs.size := by simpa using hb
    have hle : s1.heap.objs.size ≤ b := by
      rcases e' with rfl | rfl
      · exact Nat.le_add_right _ _
      · exact Nat.le_refl _
    exact I1.fpOk hle (I1.hok.fresh hle)
theorem rd_iEnumS {ta : TA} {R : It → Hp → Prop} {σ : L2.St} {H : Hp} (h : ta σ H fun vs H1 => ∃ z, vs = [.str z] ∧ R (IteS z) H1) : iEnumS ta σ H R := h
section
variable {K : PySem.W.Frag} {σ : L2.St} {H : Hp} {Q : VK} {tt : TT} {te : TE} {vs : List Nat} {j1 j2 k : Nat} {σx : V → V → L2.St} {a b : Addr} {n : Nat} {px py : Nat → V} {f : Nat → Bool} {g : Nat → V} {J : It}
theorem lc_enumS {z : Str} (hk : k = 2) (hz : z.cps.size ≤ 40000) (hσ : ∀ x y, ((wipe σ vs).set j1 (some x)).set j2 (some y) = σx x y) (hw : ∀ x y, wipe (σx x y) vs = wipe σ vs)
    (f : Nat → Bool) (g : Nat → V) (hs : ∀ i, i < z.cps.size → TurnP H tt te σx (fun i => .int (i : Nat)) (fun i => .str ⟨#[z.cps.toList.getD i 0]⟩) f g i)
    (hd : ∀ D H', Evl.Ex H H' → H D = none → H' D = some (.lst (((List.range z.cps.size).filter f).map g)) → Q (.ref D) H') : LcR (gTup K k (gCons (gName j1) (gCons (gName j2) gNil))) tt te vs σ Q (IteS z) H :=
  lc_pairs hk hz (fun i H' e hi => hi) (fun H' e => rfl)
    (fun i H1 x H2 e hi hy => by
      obtain ⟨T, c, rfl, hT, rfl, h⟩ := hy
      refine ⟨T, rfl, hT, ?_⟩
      show _ = upd H1 T (.tup [.int (i : Nat), .str ⟨#[z.cps.toList.getD i 0]⟩])
      have e : z.cps.toList.getD i 0 = c := by
        rw [List.getD_eq_getElem?_getD, Array.getElem?_toList, h] <;> rfl
      rw [e]) hσ hw hs hd
end

/-! ### list of a dict with ints for keys -/
def KeysI (kvs : List (Key × V)) (ks : List Int) : Prop := kvs.map (·.1) = ks.map Sum.inl
def rListD : List V → Hp → VK → Prop := fun xs H Q => ∃ (a : Addr) (kvs : List (Key × V)) (ks : List Int), xs = [.ref a] ∧ Rd H a (.dK kvs) ∧ KeysI kvs ks ∧ ∀ p : Addr, H p = none → Q (.ref p) (upd H p (.lst (ks.map V.int)))
theorem c_listD {X : Cx} (hcalm : X.calm = true) : CallR X (.type "list") rListD := by
  intro pins s σ H xs us Q I r q
  obtain ⟨a, kvs, ks, ex, hd, hks, q⟩ := q
  subst ex
  obtain ⟨u, eu, rx⟩ := vals1 r
  subst eu
  cases rx
  obtain ⟨z, lo, vs, rel, dd⟩ := dk_rd I.hok hd
  obtain ⟨ep, hat⟩ := dd.dictAt
  have hkeys : vs.map (·.1) = ks.map Sum.inl := rel.keys.symm.trans hks
  have hl : vs.length = ks.length := by
    have e := congrArg List.length hkeys
    rw [List.length_map, List.length_map] at e
    exact e
  have h16 : vs.length ≤ sizeLine := by
    rw [← rel.length]
    exact z
  refine PySem.W.kdl_call (PySem.W.kdl_dict (knd := mixKind X.prog X.w) (kvs := vs) (ep := ep) lo) (I.ok.hd hcalm) hat h16 fun h' tk acc c' hk hS hacc => ?_
  have hal : acc.toList.length = ks.length := by rw [Array.length_toList, hacc.1, hl]
  have hI : IntsAre acc.toList ks := ints_each hal fun j v e => by
    obtain ⟨k, x, e1, e2⟩ := hacc.2 j v (by rw [← Array.getElem?_toList]; exact e)
    have e3 : (vs.map (·.1))[j]? = some k := by rw [List.getElem?_map, e1]; rfl
    rw [hkeys, List.getElem?_map] at e3
    cases e4 : ks[j]? with
    | none => rw [e4] at e3; cases e3
    | some y =>
      rw [e4] at e3
      have e5 : Sum.inl y = k := Option.some.inj e3
      subst e5
      rcases keyIs_shape (show keyIs (Sum.inl y) v = true from e2) with ⟨i, t, ek, ev⟩ | ⟨z, t, ek, ev⟩
      · cases ek
        exact ⟨y, t, rfl, ev⟩
      · cases ek
  refine ⟨.ref s.heap.objs.size, upd H s.heap.objs.size (.lst (ks.map V.int)), I.laid (t' := tk) hk (Nat.le_refl _)
    (show ObjOk X.prog X.w _ _ _ (.lst (ks.map V.int)) from ⟨by rw [List.length_map, ← hl]; exact h16, acc.toList, c', vals_of_ints hI, by rw [Array.toArray_toList]; exact hS⟩), rfl, q _ (I.hok.fresh (Nat.le_refl _))⟩
theorem rd_listD {H : Hp} {Q : VK} {a : Addr} {kvs : List (Key × V)} {ks : List Int} (h : H a = some (.dK kvs)) (hk : KeysI kvs ks) (q : ∀ p : Addr, H p = none → Q (.ref p) (upd H p (.lst (ks.map V.int)))) : rListD [.ref a] H Q := ⟨a, kvs, ks, rfl, .inl h, hk, q⟩

/-! ### keys of a dict -/
theorem rd_din {ty td : TE} {σ : L2.St} {H : Hp} {Q : VK} (h : ty σ H fun y H1 => td σ H1 fun x H2 => ∃ a o, x = .ref a ∧ DGet H2 a y o ∧ Q (.bl o.isSome) H2) : tDIn ty td σ H Q := h
theorem rd_dnotin {ty td : TE} {σ : L2.St} {H : Hp} {Q : VK} (h : ty σ H fun y H1 => td σ H1 fun x H2 => ∃ a o, x = .ref a ∧ DGet H2 a y o ∧ Q (.bl (!o.isSome)) H2) : tDNotIn ty td σ H Q := h
theorem val_some {kvs : List (Key × V)} {ks : List Int} {x : Int} (h : KeysI kvs ks) : (valV kvs (Sum.inl x)).isSome = decide (x ∈ ks) := by
  unfold valV
  rw [Option.isSome_map]
  have key : (kvs.find? fun kv => decide (kv.1 = Sum.inl x)).isSome = true ↔ x ∈ ks := by
    rw [List.find?_isSome]
    constructor
    · rintro ⟨kv, hm, e⟩
      have e2 : kv.1 = Sum.inl x := of_decide_eq_true e
      have h1 : kv.1 ∈ ks.map Sum.inl := h ▸ List.mem_map_of_mem hm
      obtain ⟨y, hy, e3⟩ := List.mem_map.mp h1
      rw [e2] at e3
      cases e3
      exact hy
    · intro hx
      have h1 : (Sum.inl x : Key) ∈ kvs.map (·.1) := h ▸ List.mem_map_of_mem hx
      obtain ⟨kv, hm, e⟩ := List.mem_map.mp h1
      exact ⟨kv, hm, decide_eq_true e⟩
  by_cases c : x ∈ ks
  · rw [decide_eq_true c]
    exact key.mpr c
  · rw [decide_eq_false c]
    cases e : (kvs.find? fun kv => decide (kv.1 = Sum.inl x)).isSome with
    | false => rfl
    | true => exact absurd (key.mp e) c
theorem KeysI.nil : KeysI [] [] := rfl
theorem KeysI.len {kvs : List (Key × V)} {ks : List Int} (h : KeysI kvs ks) : kvs.length = ks.length := by
  have e := congrArg List.length h
  rw [List.length_map, List.length_map] at e
  exact e
/-- what stands among the keys when x is put -/
def putI (ks : List Int) (x : Int) : List Int := if x ∈ ks then ks else ks ++ [x]
theorem putI_mem {ks : List Int} {x y : Int} : y ∈ putI ks x ↔ y ∈ ks ∨ y = x := by
  unfold putI
  by_cases c : x ∈ ks
  · rw [if_pos c]
    exact ⟨.inl, fun h => h.elim id fun e => e ▸ c⟩
  · rw [if_neg c, List.mem_append, List.mem_singleton]
theorem putI_nodup {ks : List Int} {x : Int} (h : ks.Nodup) : (putI ks x).Nodup := by
  unfold putI
  by_cases c : x ∈ ks
  · rw [if_pos c]
    exact h
  · rw [if_neg c, List.nodup_append]
    exact ⟨h, by simp, fun a ha b hb => by rw [List.mem_singleton.mp hb]; exact fun q => c (q ▸ ha)⟩
theorem KeysI.put {kvs : List (Key × V)} {ks : List Int} (h : KeysI kvs ks) (x : Int) (v : V) : KeysI (putK kvs (Sum.inl x) v) (putI ks x) := by
  unfold KeysI
  rw [keys_put]
  have e : ((kvs.any fun kv => decide (kv.1 = Sum.inl x)) = true) ↔ x ∈ ks := by
    rw [any_key, h]
    constructor
    · intro hm
      obtain ⟨y, hy, e⟩ := List.mem_map.mp hm
      cases e
      exact hy
    · exact fun hx => List.mem_map_of_mem hx
  unfold putI
  by_cases c : x ∈ ks
  · rw [if_pos (e.mpr c), if_pos c]
    exact h
  · rw [if_neg fun q => c (e.mp q), if_neg c, List.map_append, h] <;> rfl
theorem KeysI.get {kvs : List (Key × V)} {ks : List Int} {i : Nat} {k : Key} {v : V} (h : KeysI kvs ks) (e : kvs[i]? = some (k, v)) : ∃ x, k = Sum.inl x ∧ ks[i]? = some x := by
  have e1 : (kvs.map (·.1))[i]? = some k := by rw [List.getElem?_map, e] <;> rfl
  rw [h, List.getElem?_map] at e1
  obtain ⟨x, hx, e2⟩ := Option.map_eq_some_iff.mp e1
  exact ⟨x, e2.symm, hx⟩

/-! ### a dict made of another one's keys -/
theorem rd_lockE {t : TE} {σ : L2.St} {H : Hp} {Q : VK} (h : ∃ d u, H d = some u ∧ Mut (some u) ∧ ∀ od, t σ (upd H d (.frz od u)) fun v H' => H' d = some (.frz od u) ∧ Q v (upd H' d u)) : tLockE t σ H Q := h
theorem rd_iKeys {td : TE} {σ : L2.St} {H : Hp} {R : It → Hp → Prop} (h : td σ H fun x H1 => ∃ d o, x = .ref d ∧ ((∃ kvs, H1 d = some (.frz o (.dK kvs)) ∧ R (Itk d o kvs) H1) ∨ ∃ kvs, H1 d = some (.frz o (.dT kvs)) ∧ R (Itkt d o kvs) H1)) : iKeys td σ H R := h
section
variable {σ : L2.St} {H : Hp} {Q : VK} {tt : TT} {tk tv : TE} {vs : List Nat} {j : Nat} {σx : V → L2.St} {d : Addr} {od : Obj} {kvs : List (Key × V)} {ks : List Int}
abbrev TurnK (H : Hp) (tt : TT) (tk tv : TE) (σx : V → L2.St) (f : Int → Bool) (x : Int) : Prop :=
  ∀ (H' : Hp) (N : V → V → Hp → Prop) (S : Hp → Prop), Evl.Ex H H' → (f x = true → ∀ v H3, Evl.Ex H' H3 → N (.int x) v H3) → (f x = false → ∀ H3, Evl.Ex H' H3 → S H3) →
    tt (σx (.int x)) H' fun b H2 => if b = true then tk (σx (.int x)) H2 fun y H4 => tv (σx (.int x)) H4 fun z H5 => N y z H5 else S H2
/-- {k: .. for k in d if f k}: the new dict has the keys that f lets -/
theorem dc_keys (f : Int → Bool) (hd : H d = some (.frz od (.dK kvs))) (hk : KeysI kvs ks) (hz : ks.length ≤ 1000) (hn : ks.Nodup) (hσ : ∀ x, (wipe σ vs).set j (some x) = σx x) (hw : ∀ x, wipe (σx x) vs = wipe σ vs)
    (hs : ∀ x ∈ ks, TurnK H tt tk tv σx f x)
    (hq : ∀ D kvs' H', Evl.Ex H H' → H D = none → H' D = some (.dK kvs') → KeysI kvs' (ks.filter f) → Q (.ref D) H') : DcR (gName j) tt tk tv vs σ Q (Itk d od kvs) H := fun D hD => by
  have hl := hk.len
  refine ⟨fun i m H' => i + m = kvs.length ∧ Evl.Ex H H' ∧ ∃ kvs', H' D = some (.dK kvs') ∧ KeysI kvs' ((ks.take i).filter f), ⟨kvs.length, by omega, Evl.Ex.new hD, [], upd_same, rfl⟩, fun i m H' hW => ?_⟩
  obtain ⟨em, e, kvs', ed, hk'⟩ := hW
  by_cases hi : i < kvs.length
  · refine .inr ⟨⟨e _ _ hd, hi⟩, fun H3 => Evl.Ex H H3 ∧ ∃ kvs', H3 D = some (.dK kvs') ∧ KeysI kvs' ((ks.take (i + 1)).filter f), fun H3 h3 => ⟨m - 1, by omega, by omega, h3⟩, fun x H2 hy => ?_⟩
    obtain ⟨rfl, k, v, hkv, rfl⟩ := hy
    obtain ⟨y, rfl, hy⟩ := hk.get hkv
    show gName j (.int y) (wipe σ vs) H2 _
    rw [show gName j (.int y) (wipe σ vs) H2 = fun N => N (σx (.int y)) H2 from funext fun N => by rw [← hσ (.int y)] <;> rfl]
    have hm : y ∈ ks := List.mem_of_getElem? hy
    have ht : ks.take (i + 1) = ks.take i ++ [y] := by rw [List.take_add_one, hy] <;> rfl
    have hny : y ∉ (ks.take i).filter f := fun q => by
      have h1 := (List.mem_filter.mp q).1
      have h2 : (ks.take (i + 1)).Nodup := hn.sublist (List.take_sublist _ _)
      rw [ht, List.nodup_append] at h2
      exact h2.2.2 y h1 y (List.mem_singleton.mpr rfl) rfl
    have hlen : kvs'.length ≤ 1000 := by
      rw [hk'.len]
      have h1 := List.length_filter_le f (ks.take i)
      have h2 := List.length_take_le i ks
      have h3 : (ks.take i).length ≤ ks.length := by rw [List.length_take]; omega
      omega
    refine ⟨hw _, hs y hm H2 (fun yv z H5 => ∃ kvs k, yv = kV k ∧ H5 D = some (.dK kvs) ∧ kvs.length < sizeLine ∧ (Evl.Ex H (upd H5 D (.dK (putK kvs k z))) ∧ ∃ kvs', (upd H5 D (.dK (putK kvs k z))) D = some (.dK kvs') ∧ KeysI kvs' ((ks.take (i + 1)).filter f)))
      (fun H3 => Evl.Ex H H3 ∧ ∃ kvs', H3 D = some (.dK kvs') ∧ KeysI kvs' ((ks.take (i + 1)).filter f)) e (fun hf v H3 e3 => ?_) fun hf H3 e3 => ?_⟩
    · refine ⟨kvs', Sum.inl y, rfl, e3 _ _ ed, by rw [sizeLine_eq]; omega, Evl.Ex.mut (e.trans e3) hD, _, upd_same, ?_⟩
      have h1 := hk'.put y v
      unfold putI at h1
      rw [if_neg hny] at h1
      rw [ht, List.filter_append, List.filter_cons_of_pos hf, List.filter_nil]
      exact h1
    · refine ⟨e.trans e3, kvs', e3 _ _ ed, ?_⟩
      rw [ht, List.filter_append, List.filter_cons_of_neg (by rw [hf]; decide), List.filter_nil, List.append_nil]
      exact hk'
  · have hik : i = kvs.length := by omega
    subst hik
    rw [hl, List.take_of_length_le (Nat.le_refl _)] at hk'
    exact .inl ⟨⟨e _ _ hd, Nat.le_refl _⟩, hq D kvs' H' e hD ed hk'⟩
end
/-! ### triples -/
theorem rd_gtup3 {K : PySem.W.Frag} {σ σ' : L2.St} {H : Hp} {p : Addr} {x y z : V} {n i j k : Nat} {N : L2.St → Hp → Prop} (s : SqT K H p [x, y, z]) (hn : n = 3) (hs : ((σ.set i (some x)).set j (some y)).set k (some z) = σ') (h : N σ' H) :
    gTup K n (gCons (gName i) (gCons (gName j) (gCons (gName k) gNil))) (.ref p) σ H N := ⟨p, [x, y, z], rfl, s, hn.symm, x, [y, z], rfl, y, [z], rfl, z, [], rfl, rfl, by subst hs; exact h⟩
theorem rd_lockS {t : TS} {D : Ends} {σ : L2.St} {H : Hp} (h : tLock t D σ H) : tLock t D σ H := h
end Ea
set_option Elab.async false
set_option linter.all false
set_option maxRecDepth 100000
set_option maxHeartbeats 400000
namespace KA
open PySem PySem.Spec PyProof.Rows L2 Ea
def topS (i : Nat) : Stmt := PySem.Challenge.pw_eachsome_k52_whole_letters_that_have_to.main.body.getD i (.Pass ⟨0, 0, 0, 0⟩)
abbrev s_law_draw : Stmt := topS 17
theorem sc_law_draw : FnScope ["bag", "many", "cell", "found", "turn"] ["bag", "many"] (defScope s_law_draw) :=
  ⟨rfl, rfl, rfl, by decide +kernel, rfl, by decide +kernel, by decide +kernel⟩
abbrev s_law_pick : Stmt := topS 18
theorem sc_law_pick : FnScope ["bag", "row"] ["bag", "row"] (defScope s_law_pick) :=
  ⟨rfl, rfl, rfl, by decide +kernel, rfl, by decide +kernel, by decide +kernel⟩
abbrev s_law_mixed : Stmt := topS 19
theorem sc_law_mixed : FnScope ["bag", "row", "left", "found"] ["bag", "row"] (defScope s_law_mixed) :=
  ⟨rfl, rfl, rfl, by decide +kernel, rfl, by decide +kernel, by decide +kernel⟩
abbrev s_law_bag : Stmt := topS 16
theorem sc_law_bag : FnScope ["script", "cell", "cells", "stirred"] ["script"] (defScope s_law_bag) :=
  ⟨rfl, rfl, rfl, by decide +kernel, rfl, by decide +kernel, by decide +kernel⟩
local macro_rules | `(tactic| walk_at "rd") => `(tactic| first
  | (with_reducible refine rd_seq ?_) | (with_reducible refine rd_asg ?_) | (with_reducible refine rd_if ?_) | (with_reducible refine rd_ret ?_) | (with_reducible refine rd_next ?_)
  | (with_reducible refine rd_drop ?_) | ((with_reducible refine rd_name (σ' := ?ss) ?hs ?_); (case hs => (dsimp only [List.set]; exact rfl)))
  | ((with_reducible refine rd_var (v := ?vv) ?hv ?_); (case hv => exact rfl)) | (with_reducible refine rd_c ?_) | (with_reducible refine rd_op ?_) | (with_reducible refine rd_un ?_)
  | (with_reducible refine rd_I0 ?_) | (with_reducible refine rd_U ?_) | (with_reducible refine rd_test ?_) | (with_reducible refine rd_B ?_) | (with_reducible refine rd_k ?_)
  | (with_reducible refine rd_not ?_) | (with_reducible refine rd_and ?_) | (with_reducible refine rd_or ?_) | (with_reducible refine rd_ifE ?_)
  | (with_reducible refine rd_par ?_) | ((with_reducible refine rd_par2 (σ' := ?ss) ?hs ?_); (case hs => (dsimp only [List.set]; exact rfl)))
  | (with_reducible refine rd_gsub ?_) | (with_reducible refine rd_andV ?_) | (with_reducible refine rd_orV ?_) | (with_reducible refine rd_notV ?_)
  | (with_reducible refine rd_lc ?_) | (with_reducible refine rd_iTup ?_) | (with_reducible refine rd_iList ?_) | (with_reducible refine rd_iRng1 ?_)
  | (with_reducible refine rd_yes ?_) | (with_reducible refine rd_true ?_) | (with_reducible refine rd_false ?_) | (with_reducible refine rd_m1 ?_) | (with_reducible refine rd_isS ?_)
  | ((with_reducible refine rd_eq ?hs ?_); (case hs => exact rfl)) | ((with_reducible refine rd_ne ?hs ?_); (case hs => exact rfl))
  | (with_reducible refine rd_listRg ?_) | (with_reducible refine rd_rg2 ?_) | (with_reducible refine rd_rgk ?_)
  | (with_reducible refine rd_dnew ?_) | (with_reducible refine rd_ddel ?_) | (with_reducible refine rd_kw ?_) | (with_reducible refine rd_callS ?_) | (with_reducible refine rd_dc ?_) | (with_reducible refine rd_for ?_) | (with_reducible refine rd_tru ?_) | (with_reducible refine rd_truI ?_)
  | (with_reducible refine rd_nil ?_) | (with_reducible refine rd_cons ?_) | (with_reducible refine rd_call ?_) | (with_reducible refine rd_cb ?_)
  | (with_reducible refine rd_tup ?_) | (with_reducible refine rd_lst ?_) | (with_reducible refine rd_dget ?_) | (with_reducible refine rd_dput ?_) | (with_reducible refine rd_sl ?_)
  | (with_reducible refine rd_nopart ?_) | (with_reducible refine rd_part ?_) | (with_reducible refine rd_parti ?_) | (with_reducible refine rd_bm ?_) | (with_reducible refine rd_bm0 ?_)
  | (with_reducible refine rd_int ?_) | (with_reducible refine rd_intb ?_) | (with_reducible refine rd_abs ?_) | (with_reducible refine rd_min2 ?_) | (with_reducible refine rd_max2 ?_))
local macro_rules | `(tactic| walk_at "rds") => `(tactic| repeat (walk_at "rd"))
local macro_rules | `(tactic| walk_at "rq") => `(tactic| first
  | (with_reducible refine rd_seq ?_) | (with_reducible refine rd_asg ?_) | (with_reducible refine rd_ret ?_) | (with_reducible refine rd_next ?_)
  | (with_reducible refine rd_drop ?_) | ((with_reducible refine rd_name (σ' := ?ss) ?hs ?_); (case hs => (dsimp only [List.set]; exact rfl)))
  | ((with_reducible refine rd_var (v := ?vv) ?hv ?_); (case hv => exact rfl)) | (with_reducible refine rd_c ?_) | (with_reducible refine rd_op ?_) | (with_reducible refine rd_un ?_)
  | (with_reducible refine rd_I0 ?_) | (with_reducible refine rd_U ?_) | (with_reducible refine rd_test ?_) | (with_reducible refine rd_B ?_) | (with_reducible refine rd_k ?_)
  | (with_reducible refine rd_not ?_) | (with_reducible refine rd_and ?_) | (with_reducible refine rd_or ?_) | (with_reducible refine rd_ifE ?_)
  | (with_reducible refine rd_par ?_) | ((with_reducible refine rd_par2 (σ' := ?ss) ?hs ?_); (case hs => (dsimp only [List.set]; exact rfl)))
  | (with_reducible refine rd_gsub ?_) | (with_reducible refine rd_andV ?_) | (with_reducible refine rd_orV ?_) | (with_reducible refine rd_notV ?_)
  | (with_reducible refine rd_lc ?_) | (with_reducible refine rd_iTup ?_) | (with_reducible refine rd_iList ?_) | (with_reducible refine rd_iRng1 ?_)
  | (with_reducible refine rd_yes ?_) | (with_reducible refine rd_true ?_) | (with_reducible refine rd_false ?_) | (with_reducible refine rd_m1 ?_) | (with_reducible refine rd_isS ?_)
  | ((with_reducible refine rd_eq ?hs ?_); (case hs => exact rfl)) | ((with_reducible refine rd_ne ?hs ?_); (case hs => exact rfl))
  | (with_reducible refine rd_listRg ?_) | (with_reducible refine rd_rg2 ?_) | (with_reducible refine rd_rgk ?_)
  | (with_reducible refine rd_dnew ?_) | (with_reducible refine rd_ddel ?_) | (with_reducible refine rd_kw ?_) | (with_reducible refine rd_callS ?_) | (with_reducible refine rd_dc ?_) | (with_reducible refine rd_for ?_) | (with_reducible refine rd_tru ?_) | (with_reducible refine rd_truI ?_)
  | (with_reducible refine rd_nil ?_) | (with_reducible refine rd_cons ?_) | (with_reducible refine rd_call ?_) | (with_reducible refine rd_cb ?_)
  | (with_reducible refine rd_tup ?_) | (with_reducible refine rd_lst ?_) | (with_reducible refine rd_dget ?_) | (with_reducible refine rd_dput ?_) | (with_reducible refine rd_sl ?_)
  | (with_reducible refine rd_nopart ?_) | (with_reducible refine rd_part ?_) | (with_reducible refine rd_parti ?_) | (with_reducible refine rd_bm ?_) | (with_reducible refine rd_bm0 ?_)
  | (with_reducible refine rd_int ?_) | (with_reducible refine rd_intb ?_) | (with_reducible refine rd_abs ?_) | (with_reducible refine rd_min2 ?_) | (with_reducible refine rd_max2 ?_))
local macro_rules | `(tactic| walk_at "rqs") => `(tactic| repeat (walk_at "rq"))

/-- the names of the built-ins that the text does not bind -/
structure Bl (mg : Str → Option Value) : Prop where
  len : mg "len" = none
  abs : mg "abs" = none
  min : mg "min" = none
  max : mg "max" = none
  sorted : mg "sorted" = none
  tuple : mg "tuple" = none
  list : mg "list" = none
  set : mg "set" = none
  int : mg "int" = none
  range : mg "range" = none
  repr : mg "repr" = none
  isinstance : mg "isinstance" = none
  enumerate : mg "enumerate" = none
  zip : mg "zip" = none
  sum : mg "sum" = none
  all : mg "all" = none
  any : mg "any" = none
  dict : mg "dict" = none
/-- how a def stands among the module's names -/
structure Callee (K : PySem.W.Frag) (mg : Str → Option Value) (x : Str) (f : Addr) (fd : FuncData) (ps : List Str) : Prop where
  m : mg x = some (.ref f)
  k : PySem.W.keepIn K (.ref f) = true
  b : Binds K fd ps []
theorem SetFor_erase {as : List Int} {k : Nat} : (some (HO.lst ((as.map V.int).eraseIdx k)) : Option HO) = some (.lst ((as.eraseIdx k).map V.int)) := by
  rw [erase_mapI]
theorem erase_perm {as : List Int} {k : Nat} (h : k < as.length) : as.Perm (as[k] :: as.eraseIdx k) := by
  induction as generalizing k with
  | nil => cases h
  | cons x r ih =>
    cases k with
    | zero => exact List.Perm.refl _
    | succ k =>
      have h' : k < r.length := Nat.lt_of_succ_lt_succ h
      exact ((ih h').cons x).trans (List.Perm.swap _ _ _)
theorem perm_move (as bs : List Int) (x : Int) : (as ++ (bs ++ [x])).Perm ((x :: as) ++ bs) := by
  rw [← List.append_assoc]
  exact (List.perm_append_singleton x (as ++ bs)).trans (List.Perm.refl _)
section
variable {K : PySem.W.Frag} {H : Hp} {Q : VK} {d l : Addr} {m c k : Int} {xs : List V} {y : V} {i : Int}
theorem dk0 (h : H d = some (.lst [.ref l, .int m, .int c])) (q : Q (.ref l) H) : rIxL K (.ref d) (.int 0) H Q := rd_ixL (SqL.of h) rfl q
theorem dk1 (h : H d = some (.lst [.ref l, .int m, .int c])) (q : Q (.int m) H) : rIxL K (.ref d) (.int 1) H Q := rd_ixL (SqL.of h) rfl q
theorem dk2 (h : H d = some (.lst [.ref l, .int m, .int c])) (q : Q (.int c) H) : rIxL K (.ref d) (.int 2) H Q := rd_ixL (SqL.of h) rfl q
theorem dk_set2 {N : Hp → Prop} (h : H d = some (.lst [.ref l, .int m, .int c])) (q : N (upd H d (.lst [.ref l, .int m, .int k]))) : rSetL (.ref d) (.int 2) (.int k) H N := ⟨d, _, 2, 2, rfl, rfl, h, rfl, q⟩
theorem rd_listE {p : Addr} {ys : List V} (s : SqL K H p ys ∨ SqT K H p ys) (h : ∀ l, H l = none → Q (.ref l) (upd H l (.lst ys))) : rListOf K [.ref p] H Q := s.elim (fun s => rd_listL s h) fun s => rd_listT s h
end
section
variable {P : Program} {w : World} {K : PySem.W.Frag} {mg : Str → Option Value} {base : Heap}
def spDraw : Sp := fun vs H Q _ => ∃ (d l : Addr) (many : Int), vs = [.ref d, .int many] ∧ DeckL d l H ∧ 1 ≤ many ∧ many ≤ 1000000 ∧
  ∀ (r : Int) (H' : Hp), Gl d l H H' → 0 ≤ r → r < many → Q (.int r) H'
theorem ok_draw {f : Addr} {fd : FuncData} (F : Fun K "_law_draw" "_law_draw" s_law_draw f fd) (T : Bl mg) : FnOk P w K mg base CX0 1 f fd ["bag", "many"] spDraw := by
  refine F.ok sc_law_draw (fun vs H Q E h => ?_) (fun cdv A outer s H vs Q E hr h => ?_)
  · obtain ⟨d, l, many, rfl, _⟩ := h
    rfl
  · obtain ⟨d, l, many, rfl, hD, h1, h2, q⟩ := h
    refine ⟨_, (pss_cons (ps_if (PW.pt (pw_and (pt_cmpR (ok_neD (K := K) rfl hr.units) (pe_ix (ik_list (K := K) rfl) (pv 0) pe_int (fun _ _ => rfl)) (pe_lst pa_nil) (nomark _)) (pw_and1 (pt_cmpR op_gt (pv 1) pe_int (nomark _))))) (pss_cons (ps_set (i := 2) sc_law_draw.nd rfl (Or.inl rfl) (pe_bm PySem.F.plainAttrs_list PySem.F.slot_list_pop PySem.F.type_list_pop mt_popAt (pe_ix (ik_list (K := K) rfl) (pv 0) pe_int (fun _ _ => rfl)) (pa_cons pe_int pa_nil)))
 (pss_cons (ps_if (pt_cmpR op_ge (pv 2) (pv 1) (nomark _)) (pss_one (ps_expr (pe_bm PySem.F.plainAttrs_list PySem.F.slot_list_insert PySem.F.type_list_insert mt_insert (pe_ix (ik_list (K := K) rfl) (pv 0) pe_int (fun _ _ => rfl)) (pa_cons pe_int (pa_cons (pe_op op_fdiv (pv 2) (pv 1)) pa_nil))))) pss_nil)
 (pss_one (ps_ret (pe_op op_mod (pe_callTy c_int (by rfl) T.int (by decide +kernel) (pa_cons (pv 2) pa_nil)) (pv 1)))))) pss_nil)
 (pss_cons (ps_asg (pe_op op_add (pe_ix (ik_list (K := K) rfl) (pv 0) pe_int (fun _ _ => rfl)) pe_int) (pg_sub (pv 0) pe_int set_list))
 (pss_cons (ps_set (i := 3) sc_law_draw.nd rfl (Or.inl rfl) (pe_op op_mod (pe_callTy c_int (by rfl) T.int (by decide +kernel) (pa_cons (pe_op op_add (pe_ix (ik_list (K := K) rfl) (pv 0) pe_int (fun _ _ => rfl)) (pe_op op_mul pe_int (pe_ix (ik_list (K := K) rfl) (pv 0) pe_int (fun _ _ => rfl)))) pa_nil)) pe_int))
 (pss_cons (ps_for PassesOwn.never rfl (pi_range1 (by rfl) T.range (pa_cons pe_int pa_nil)) (pg_name (i := 4) sc_law_draw.nd rfl (Or.inl rfl)) (pss_one (ps_set (i := 3) sc_law_draw.nd rfl (Or.inl rfl) (pe_op op_mod (pe_callTy c_int (by rfl) T.int (by decide +kernel) (pa_cons (pe_op op_add (pe_op op_add (pe_op op_add (pe_op op_mul (pv 3) (pv 3)) (pe_op op_mul pe_int (pe_ix (ik_list (K := K) rfl) (pv 0) pe_int (fun _ _ => rfl)))) pe_int) (pv 4)) pa_nil)) pe_int))))
 (pss_one (ps_ret (pe_op op_mod (pe_callTy c_int (by rfl) T.int (by decide +kernel) (pa_cons (pe_op op_fdiv (pv 3) pe_int) pa_nil)) (pv 1)))))))), ?_⟩
    refine rd_start (σ' := [some (.ref d), some (.int many), none, none, none]) rfl ?_
    obtain ⟨ns, m, c, e1, e2, hl, hp, s0, s1⟩ := id hD
    have hdl := hD.ne
    walk_at "rds"
    refine dk0 e1 ?_
    walk_at "rds"
    refine ⟨Nat.zero_le _, fun p hp0 => ?_⟩
    obtain ⟨n1, n2⟩ := hD.off hp0
    have f1 : (upd H p (.lst [])) d = _ := (upd_ne n1.symm).trans e1
    have f2 : (upd H p (.lst [])) l = _ := (upd_ne n2.symm).trans e2
    refine rd_full (SqL.of f2) (dp_ints ns) (shaped_ints ns) (SqL.of upd_same) ?_
    walk_at "rds"
    refine rd_iteb (fun c2 => ?_) (fun c2 => ?_)
    · walk_at "rds"
      refine rd_ite (fun c3 => ?_) (fun c3 => ?_)
      · obtain ⟨z, r, rfl⟩ : ∃ z r, ns = z :: r := by
          cases ns with
          | nil => cases c2
          | cons z r => exact ⟨z, r, rfl⟩
        have z0 : 0 ≤ z := hp z List.mem_cons_self
        have hr0 : ∀ n ∈ r, 0 ≤ n := fun n hn => hp n (List.mem_cons_of_mem _ hn)
        have hrl : r.length + 1 ≤ 63 := hl
        walk_at "rds"
        refine dk0 f1 (rd_tyL f2 ?_)
        walk_at "rds"
        refine rd_popAt (k := 0) f2 rfl rfl (by rw [List.length_map]; show r.length + 1 ≤ _; omega) ?_
        have g1 : (upd (upd H p (.lst [])) l (.lst (((z :: r).map V.int).eraseIdx 0))) d = _ := (upd_ne hdl).trans f1
        have g2 : (upd (upd H p (.lst [])) l (.lst (((z :: r).map V.int).eraseIdx 0))) l = some (.lst (r.map V.int)) := upd_same
        walk_at "rds"
        refine rd_ite (fun c4 => ?_) (fun c4 => ?_)
        · walk_at "rds"
          refine dk0 g1 (rd_tyL g2 ?_)
          walk_at "rds"
          refine rd_I ⟨by omega, by omega⟩ ?_
          walk_at "rds"
          refine ⟨l, _, 0, _, rfl, rfl, g2, Evl.sz_lt (by rw [List.length_map]; omega), Int.le_refl _, by decide, ?_⟩
          walk_at "rds"
          refine rd_I (by omega) ?_
          have hq : 0 ≤ z / many := Int.ediv_nonneg z0 (by omega)
          refine q (z % many) _ ⟨⟨z / many :: r, m, c, (upd_ne hdl).trans g1, upd_same, hrl, fun n hn => ?_, s0, s1⟩, fun a o m1 m2 e => ?_⟩ (Int.emod_nonneg _ (by omega)) (Int.emod_lt_of_pos _ (by omega))
          · rcases List.mem_cons.mp hn with rfl | h
            · exact hq
            · exact hr0 n h
          · rw [upd_ne m2, upd_ne m2, upd_ne (ne_of_none e hp0)]
            exact e
        · walk_at "rds"
          refine rd_I (by omega) ?_
          refine q (z % many) _ ⟨⟨r, m, c, g1, g2, by omega, hr0, s0, s1⟩, fun a o m1 m2 e => ?_⟩ (Int.emod_nonneg _ (by omega)) (Int.emod_lt_of_pos _ (by omega))
          rw [upd_ne m2, upd_ne (ne_of_none e hp0)]
          exact e
      · walk_at "rds"
        refine dk2 f1 ?_
        walk_at "rds"
        refine dk_set2 f1 ?_
        have k1 : ∀ {k : Int}, (upd (upd H p (.lst [])) d (.lst [.ref l, .int m, .int k])) d = _ := fun {k} => upd_same
        have k2 : ∀ {k : Int}, (upd (upd H p (.lst [])) d (.lst [.ref l, .int m, .int k])) l = _ := fun {k} => (upd_ne hdl.symm).trans f2
        walk_at "rds"
        refine dk1 k1 ?_
        walk_at "rds"
        refine dk2 k1 ?_
        walk_at "rds"
        refine rd_I (.inl ⟨by decide, by decide⟩) ?_
        walk_at "rds"
        refine rd_I (by decide) ?_
        walk_at "rds"
        refine rd_rng1 (by decide) (by decide) ?_
        refine fr_range (lo := 0) (n := 2) (fun i σ' H' => ∃ (x : Int) (y : Option V), σ' = [some (.ref d), some (.int many), none, some (.int x), y] ∧ H' = upd (upd H p (.lst [])) d (.lst [.ref l, .int m, .int (c + 1)]) ∧ 0 ≤ x ∧ x < 4294967296) ⟨_, _, rfl, rfl, Int.emod_nonneg _ (by decide), by omega⟩ (fun i σ' H' hi hP => ?_) fun σ' H' hP => ?_
        · obtain ⟨x, y, rfl, rfl, x0, x1⟩ := hP
          refine rd_start (σ' := [some (.ref d), some (.int many), none, some (.int x), some (.int (0 + (i : Int)))]) rfl ?_
          walk_at "rds"
          refine rd_I (.inl ⟨by omega, by omega⟩) ?_
          walk_at "rds"
          refine dk2 k1 ?_
          walk_at "rds"
          refine rd_I (.inl ⟨by decide, by decide⟩) ?_
          walk_at "rds"
          refine rd_I (by decide) ?_
          walk_at "rds"
          exact ⟨_, _, rfl, rfl, Int.emod_nonneg _ (by decide), by omega⟩
        · obtain ⟨x, y, rfl, rfl, x0, x1⟩ := hP
          walk_at "rds"
          refine rd_I ⟨by decide, by decide⟩ ?_
          walk_at "rds"
          refine rd_I (by omega) ?_
          refine q _ _ ⟨⟨ns, m, c + 1, k1, k2, hl, hp, s0, s1⟩, fun a o m1 m2 e => ?_⟩ (Int.emod_nonneg _ (by omega)) (Int.emod_lt_of_pos _ (by omega))
          rw [upd_ne m1, upd_ne (ne_of_none e hp0)]
          exact e
    · walk_at "rds"
      refine dk2 f1 ?_
      walk_at "rds"
      refine dk_set2 f1 ?_
      have k1 : ∀ {k : Int}, (upd (upd H p (.lst [])) d (.lst [.ref l, .int m, .int k])) d = _ := fun {k} => upd_same
      have k2 : ∀ {k : Int}, (upd (upd H p (.lst [])) d (.lst [.ref l, .int m, .int k])) l = _ := fun {k} => (upd_ne hdl.symm).trans f2
      walk_at "rds"
      refine dk1 k1 ?_
      walk_at "rds"
      refine dk2 k1 ?_
      walk_at "rds"
      refine rd_I (.inl ⟨by decide, by decide⟩) ?_
      walk_at "rds"
      refine rd_I (by decide) ?_
      walk_at "rds"
      refine rd_rng1 (by decide) (by decide) ?_
      refine fr_range (lo := 0) (n := 2) (fun i σ' H' => ∃ (x : Int) (y : Option V), σ' = [some (.ref d), some (.int many), none, some (.int x), y] ∧ H' = upd (upd H p (.lst [])) d (.lst [.ref l, .int m, .int (c + 1)]) ∧ 0 ≤ x ∧ x < 4294967296) ⟨_, _, rfl, rfl, Int.emod_nonneg _ (by decide), by omega⟩ (fun i σ' H' hi hP => ?_) fun σ' H' hP => ?_
      · obtain ⟨x, y, rfl, rfl, x0, x1⟩ := hP
        refine rd_start (σ' := [some (.ref d), some (.int many), none, some (.int x), some (.int (0 + (i : Int)))]) rfl ?_
        walk_at "rds"
        refine rd_I (.inl ⟨by omega, by omega⟩) ?_
        walk_at "rds"
        refine dk2 k1 ?_
        walk_at "rds"
        refine rd_I (.inl ⟨by decide, by decide⟩) ?_
        walk_at "rds"
        refine rd_I (by decide) ?_
        walk_at "rds"
        exact ⟨_, _, rfl, rfl, Int.emod_nonneg _ (by decide), by omega⟩
      · obtain ⟨x, y, rfl, rfl, x0, x1⟩ := hP
        walk_at "rds"
        refine rd_I ⟨by decide, by decide⟩ ?_
        walk_at "rds"
        refine rd_I (by omega) ?_
        refine q _ _ ⟨⟨ns, m, c + 1, k1, k2, hl, hp, s0, s1⟩, fun a o m1 m2 e => ?_⟩ (Int.emod_nonneg _ (by omega)) (Int.emod_lt_of_pos _ (by omega))
        rw [upd_ne m1, upd_ne (ne_of_none e hp0)]
        exact e
def spPick : Sp := fun vs H Q _ => ∃ (d l p : Addr) (ys : List V), vs = [.ref d, .ref p] ∧ DeckL d l H ∧ H p = some (.lst ys) ∧ p ≠ d ∧ p ≠ l ∧ 1 ≤ ys.length ∧ ys.length ≤ 1000 ∧
  ∀ (y : V) (H' : Hp), Gl d l H H' → y ∈ ys → Q y H'
theorem ok_pick {f fD : Addr} {fd fdD : FuncData} (F : Fun K "_law_pick" "_law_pick" s_law_pick f fd) (T : Bl mg)
    (G_law_draw : FnOk P w K mg base CX0 1 fD fdD ["bag", "many"] spDraw) (C_law_draw : Callee K mg "_law_draw" fD fdD ["bag", "many"]) :
    FnOk P w K mg base CX0 2 f fd ["bag", "row"] spPick := by
  refine F.ok sc_law_pick (fun vs H Q E h => ?_) (fun cdv A outer s H vs Q E hr h => ?_)
  · obtain ⟨d, l, p, ys, rfl, _⟩ := h
    rfl
  · obtain ⟨d, l, p, ys, rfl, hD, hp, n1, n2, h1, h2, q⟩ := h
    refine ⟨_, (pss_one (ps_ret (pe_ix (ik_list (K := K) rfl) (pv 1) (pe_call G_law_draw (hr.mono (by decide)) (by rfl) C_law_draw.m C_law_draw.k C_law_draw.b .nil pass0 (pa_cons (pv 0) (pa_cons (pe_callB (c_len (K := K) rfl) (by rfl) T.len (by decide +kernel) (pa_cons (pv 1) pa_nil)) pa_nil))) (fun _ _ => rfl)))), ?_⟩
    refine rd_start (σ' := [some (.ref d), some (.ref p)]) rfl ?_
    walk_at "rds"
    refine rd_lenL (SqL.of hp) ?_
    walk_at "rds"
    refine ⟨d, l, _, rfl, hD, by omega, by omega, fun r H1 g r0 r1 => ?_⟩
    have hr1 : r.toNat < ys.length := by omega
    refine rd_ixL (SqL.of (g.kp p _ n1 n2 hp)) (at_nat (k := r.toNat) (by omega) (List.getElem?_eq_getElem hr1)) ?_
    exact q _ _ g (List.getElem_mem hr1)

def spMixed (K : PySem.W.Frag) : Sp := fun vs H Q _ => ∃ (d l p : Addr) (ns : List Int), vs = [.ref d, .ref p] ∧ DeckL d l H ∧ (SqL K H p (ns.map V.int) ∨ SqT K H p (ns.map V.int)) ∧ ns.length ≤ 1000 ∧
  ∀ (q : Addr) (ms : List Int) (H' : Hp), Gl d l H H' → H q = none → H' q = some (.lst (ms.map V.int)) → ms.Perm ns → Q (.ref q) H'
theorem ok_mixed {f fD : Addr} {fd fdD : FuncData} (F : Fun K "_law_mixed" "_law_mixed" s_law_mixed f fd) (T : Bl mg)
    (G_law_draw : FnOk P w K mg base CX0 1 fD fdD ["bag", "many"] spDraw) (C_law_draw : Callee K mg "_law_draw" fD fdD ["bag", "many"]) :
    FnOk P w K mg base CX0 2 f fd ["bag", "row"] (spMixed K) := by
  refine F.ok sc_law_mixed (fun vs H Q E h => ?_) (fun cdv A outer s H vs Q E hr h => ?_)
  · obtain ⟨d, l, p, ys, rfl, _⟩ := h
    rfl
  · obtain ⟨d, l, p, ns, rfl, hD, hp, h2, q⟩ := h
    refine ⟨_, (pss_cons (ps_par (i := 2) (j := 3) rfl sc_law_mixed.nd rfl rfl (by decide) rfl rfl (pa_cons (pe_callTy (c_list (K := K) rfl) (by rfl) T.list (by decide +kernel) (pa_cons (pv 1) pa_nil)) (pa_cons (pe_lst pa_nil) pa_nil)) (by rfl))
 (pss_cons (ps_while PassesOwn.never (pt_cmpR (ok_neD (K := K) rfl hr.units) (pv 2) (pe_lst pa_nil) (nomark _)) (pss_one (ps_expr (pe_bm PySem.F.plainAttrs_list PySem.F.slot_list_append PySem.F.type_list_append mt_append (pv 3) (pa_cons (pe_bm PySem.F.plainAttrs_list PySem.F.slot_list_pop PySem.F.type_list_pop mt_popAt (pv 2) (pa_cons (pe_call G_law_draw (hr.mono (by decide)) (by rfl) C_law_draw.m C_law_draw.k C_law_draw.b .nil pass0 (pa_cons (pv 0) (pa_cons (pe_callB (c_len (K := K) rfl) (by rfl) T.len (by decide +kernel) (pa_cons (pv 2) pa_nil)) pa_nil))) pa_nil)) pa_nil)))))
 (pss_one (ps_ret (pv 3))))), ?_⟩
    refine rd_start (σ' := [some (.ref d), some (.ref p), none, none]) rfl ?_
    walk_at "rds"
    refine rd_listE hp fun a na => ?_
    have g1 : Gl d l H (upd H a (.lst (ns.map V.int))) := Gl.new hD na
    walk_at "rds"
    refine ⟨Nat.zero_le _, fun b nb => ?_⟩
    have nab : a ≠ b := fun e => by
      rw [e, upd_same] at nb
      cases nb
    have nb0 : H b = none := g1.back hD nb
    walk_at "rds"
    refine rd_whileE ⟨fun m σ' H' => ∃ as bs : List Int, σ' = [some (.ref d), some (.ref p), some (.ref a), some (.ref b)] ∧ Gl d l H H' ∧
      H' a = some (.lst (as.map V.int)) ∧ H' b = some (.lst (bs.map V.int)) ∧ as.length = m ∧ (as ++ bs).Perm ns,
      ⟨ns.length, ns, [], rfl, g1.trans (Gl.new g1.dk nb), (upd_ne nab).trans upd_same, upd_same, rfl, by rw [List.append_nil]⟩, fun m σ' H' hW => ?_⟩
    obtain ⟨as, bs, rfl, g, ea, eb, rfl, pm⟩ := hW
    have hlen : as.length + bs.length = ns.length := by
      rw [← List.length_append]
      exact pm.length_eq
    obtain ⟨ad, al⟩ := hD.off na
    obtain ⟨bd, bl⟩ := hD.off nb0
    walk_at "rds"
    refine ⟨Nat.zero_le _, fun c nc => ?_⟩
    have cx : ∀ {o}, Gl d l H' (upd H' c o) := Gl.new g.dk nc
    have ea1 : (upd H' c (.lst [])) a = _ := (upd_ne (ne_of_none ea nc)).trans ea
    have eb1 : (upd H' c (.lst [])) b = _ := (upd_ne (ne_of_none eb nc)).trans eb
    refine rd_full (SqL.of ea1) (dp_ints as) (shaped_ints as) (SqL.of upd_same) ?_
    walk_at "rds"
    refine rd_iteb (fun c2 => ?_) (fun c2 => ?_)
    · refine ⟨fun σ2 H2 => ∃ (as2 bs2 : List Int), σ2 = [some (.ref d), some (.ref p), some (.ref a), some (.ref b)] ∧ Gl d l H H2 ∧
        H2 a = some (.lst (as2.map V.int)) ∧ H2 b = some (.lst (bs2.map V.int)) ∧ as2.length + 1 = as.length ∧ (as2 ++ bs2).Perm ns, fun σ2 H2 h => ?_, ?_⟩
      · obtain ⟨as2, bs2, e1, e2, e3, e4, e5, e6⟩ := h
        exact ⟨as2.length, by omega, as2, bs2, e1, e2, e3, e4, rfl, e6⟩
      · walk_at "rds"
        refine rd_tyL eb1 ?_
        walk_at "rds"
        refine rd_tyL ea1 ?_
        walk_at "rds"
        refine rd_lenL (SqL.of ea1) ?_
        walk_at "rds"
        have hpos : 1 ≤ as.length := by
          cases as with
          | nil => cases c2
          | cons x r => exact Nat.succ_le_succ (Nat.zero_le _)
        refine ⟨d, l, _, rfl, cx.dk, by rw [List.length_map]; omega, by rw [List.length_map]; omega, fun r H1 g2 r0 r1 => ?_⟩
        rw [List.length_map] at r1
        have hr1 : r.toNat < as.length := by omega
        have ea2 : H1 a = _ := g2.kp a _ ad al ea1
        have eb2 : H1 b = _ := g2.kp b _ bd bl eb1
        walk_at "rds"
        refine rd_popAt (i := r) (k := r.toNat) (y := .int as[r.toNat]) ea2 (by omega) (by rw [List.getElem?_map, List.getElem?_eq_getElem hr1]; rfl) (by rw [List.length_map]; omega) ?_
        walk_at "rds"
        have nba : b ≠ a := nab.symm
        refine rd_append ((upd_ne nba).trans eb2) (by rw [List.length_map]; omega) ?_
        walk_at "rds"
        refine ⟨as.eraseIdx r.toNat, bs ++ [as[r.toNat]], rfl, ?_, ?_, ?_, ?_, ?_⟩
        · exact Gl.mut (Gl.mut (g.trans (cx.trans g2)) hD na) hD nb0
        · rw [upd_ne nab, upd_same, SetFor_erase]
        · rw [upd_same, List.map_append] <;> rfl
        · rw [List.length_eraseIdx_of_lt hr1]
          omega
        · refine List.Perm.trans ?_ pm
          have e : as.Perm (as[r.toNat] :: as.eraseIdx r.toNat) := erase_perm hr1
          exact (perm_move _ _ _).trans (e.symm.append_right bs)
    · have e0 : as = [] := by
        cases as with
        | nil => rfl
        | cons x r => cases c2
      subst e0
      walk_at "rds"
      exact q b bs _ (g.trans cx) nb0 eb1 pm
end
end KA
set_option Elab.async false
set_option linter.all false
set_option maxRecDepth 100000
set_option maxHeartbeats 400000
namespace KA
open PySem PySem.Spec PyProof.Rows L2 Ea
abbrev s_law_owners : Stmt := topS 20
theorem sc_law_owners : FnScope ["bag", "n", "way", "cut", "k"] ["bag", "n"] (defScope s_law_owners) :=
  ⟨rfl, rfl, rfl, by decide +kernel, rfl, by decide +kernel, by decide +kernel⟩
local macro_rules | `(tactic| walk_at "rd") => `(tactic| first
  | (with_reducible refine rd_seq ?_) | (with_reducible refine rd_asg ?_) | (with_reducible refine rd_if ?_) | (with_reducible refine rd_ret ?_) | (with_reducible refine rd_next ?_)
  | (with_reducible refine rd_drop ?_) | ((with_reducible refine rd_name (σ' := ?ss) ?hs ?_); (case hs => (dsimp only [List.set]; exact rfl)))
  | ((with_reducible refine rd_var (v := ?vv) ?hv ?_); (case hv => exact rfl)) | (with_reducible refine rd_c ?_) | (with_reducible refine rd_op ?_) | (with_reducible refine rd_un ?_)
  | (with_reducible refine rd_I0 ?_) | (with_reducible refine rd_U ?_) | (with_reducible refine rd_test ?_) | (with_reducible refine rd_B ?_) | (with_reducible refine rd_k ?_)
  | (with_reducible refine rd_not ?_) | (with_reducible refine rd_and ?_) | (with_reducible refine rd_or ?_) | (with_reducible refine rd_ifE ?_)
  | (with_reducible refine rd_par ?_) | ((with_reducible refine rd_par2 (σ' := ?ss) ?hs ?_); (case hs => (dsimp only [List.set]; exact rfl)))
  | (with_reducible refine rd_gsub ?_) | (with_reducible refine rd_andV ?_) | (with_reducible refine rd_orV ?_) | (with_reducible refine rd_notV ?_)
  | (with_reducible refine rd_lc ?_) | (with_reducible refine rd_iTup ?_) | (with_reducible refine rd_iList ?_) | (with_reducible refine rd_iRng1 ?_)
  | (with_reducible refine rd_yes ?_) | (with_reducible refine rd_true ?_) | (with_reducible refine rd_false ?_) | (with_reducible refine rd_m1 ?_) | (with_reducible refine rd_isS ?_)
  | ((with_reducible refine rd_eq ?hs ?_); (case hs => exact rfl)) | ((with_reducible refine rd_ne ?hs ?_); (case hs => exact rfl))
  | (with_reducible refine rd_listRg ?_) | (with_reducible refine rd_rg2 ?_) | (with_reducible refine rd_rgk ?_)
  | (with_reducible refine rd_dnew ?_) | (with_reducible refine rd_ddel ?_) | (with_reducible refine rd_kw ?_) | (with_reducible refine rd_callS ?_) | (with_reducible refine rd_dc ?_) | (with_reducible refine rd_for ?_) | (with_reducible refine rd_tru ?_) | (with_reducible refine rd_truI ?_)
  | (with_reducible refine rd_nil ?_) | (with_reducible refine rd_cons ?_) | (with_reducible refine rd_call ?_) | (with_reducible refine rd_cb ?_)
  | (with_reducible refine rd_tup ?_) | (with_reducible refine rd_lst ?_) | (with_reducible refine rd_dget ?_) | (with_reducible refine rd_dput ?_) | (with_reducible refine rd_sl ?_)
  | (with_reducible refine rd_nopart ?_) | (with_reducible refine rd_part ?_) | (with_reducible refine rd_parti ?_) | (with_reducible refine rd_bm ?_) | (with_reducible refine rd_bm0 ?_)
  | (with_reducible refine rd_int ?_) | (with_reducible refine rd_intb ?_) | (with_reducible refine rd_abs ?_) | (with_reducible refine rd_min2 ?_) | (with_reducible refine rd_max2 ?_))
local macro_rules | `(tactic| walk_at "rds") => `(tactic| repeat (walk_at "rd"))
local macro_rules | `(tactic| walk_at "rq") => `(tactic| first
  | (with_reducible refine rd_seq ?_) | (with_reducible refine rd_asg ?_) | (with_reducible refine rd_ret ?_) | (with_reducible refine rd_next ?_)
  | (with_reducible refine rd_drop ?_) | ((with_reducible refine rd_name (σ' := ?ss) ?hs ?_); (case hs => (dsimp only [List.set]; exact rfl)))
  | ((with_reducible refine rd_var (v := ?vv) ?hv ?_); (case hv => exact rfl)) | (with_reducible refine rd_c ?_) | (with_reducible refine rd_op ?_) | (with_reducible refine rd_un ?_)
  | (with_reducible refine rd_I0 ?_) | (with_reducible refine rd_U ?_) | (with_reducible refine rd_test ?_) | (with_reducible refine rd_B ?_) | (with_reducible refine rd_k ?_)
  | (with_reducible refine rd_not ?_) | (with_reducible refine rd_and ?_) | (with_reducible refine rd_or ?_) | (with_reducible refine rd_ifE ?_)
  | (with_reducible refine rd_par ?_) | ((with_reducible refine rd_par2 (σ' := ?ss) ?hs ?_); (case hs => (dsimp only [List.set]; exact rfl)))
  | (with_reducible refine rd_gsub ?_) | (with_reducible refine rd_andV ?_) | (with_reducible refine rd_orV ?_) | (with_reducible refine rd_notV ?_)
  | (with_reducible refine rd_lc ?_) | (with_reducible refine rd_iTup ?_) | (with_reducible refine rd_iList ?_) | (with_reducible refine rd_iRng1 ?_)
  | (with_reducible refine rd_yes ?_) | (with_reducible refine rd_true ?_) | (with_reducible refine rd_false ?_) | (with_reducible refine rd_m1 ?_) | (with_reducible refine rd_isS ?_)
  | ((with_reducible refine rd_eq ?hs ?_); (case hs => exact rfl)) | ((with_reducible refine rd_ne ?hs ?_); (case hs => exact rfl))
  | (with_reducible refine rd_listRg ?_) | (with_reducible refine rd_rg2 ?_) | (with_reducible refine rd_rgk ?_)
  | (with_reducible refine rd_dnew ?_) | (with_reducible refine rd_ddel ?_) | (with_reducible refine rd_kw ?_) | (with_reducible refine rd_callS ?_) | (with_reducible refine rd_dc ?_) | (with_reducible refine rd_for ?_) | (with_reducible refine rd_tru ?_) | (with_reducible refine rd_truI ?_)
  | (with_reducible refine rd_nil ?_) | (with_reducible refine rd_cons ?_) | (with_reducible refine rd_call ?_) | (with_reducible refine rd_cb ?_)
  | (with_reducible refine rd_tup ?_) | (with_reducible refine rd_lst ?_) | (with_reducible refine rd_dget ?_) | (with_reducible refine rd_dput ?_) | (with_reducible refine rd_sl ?_)
  | (with_reducible refine rd_nopart ?_) | (with_reducible refine rd_part ?_) | (with_reducible refine rd_parti ?_) | (with_reducible refine rd_bm ?_) | (with_reducible refine rd_bm0 ?_)
  | (with_reducible refine rd_int ?_) | (with_reducible refine rd_intb ?_) | (with_reducible refine rd_abs ?_) | (with_reducible refine rd_min2 ?_) | (with_reducible refine rd_max2 ?_))
local macro_rules | `(tactic| walk_at "rqs") => `(tactic| repeat (walk_at "rq"))

section
variable {P : Program} {w : World} {K : PySem.W.Frag} {mg : Str → Option Value} {base : Heap}
def spOwners : Sp := fun vs H Q _ => ∃ (d l : Addr) (n : Int), vs = [.ref d, .int n] ∧ DeckL d l H ∧ 0 ≤ n ∧ n ≤ 60 ∧
  ∀ (z : Str) (H' : Hp), Gl d l H H' → OwnS n.toNat z → Q (.str z) H'
theorem own_of_two {k : Nat} {x1 x2 : Str} {y : V} (h1 : OwnS k x1) (h2 : OwnS k x2) (hy : y ∈ [V.str x1, V.str x2]) : ∃ z : Str, y = .str z ∧ OwnS k z := by
  rcases List.mem_cons.mp hy with rfl | hy
  · exact ⟨_, rfl, h1⟩
  · rw [List.mem_singleton.mp hy]
    exact ⟨_, rfl, h2⟩
theorem ok_owners {f fD fP : Addr} {fd fdD fdP : FuncData} (F : Fun K "_law_owners" "_law_owners" s_law_owners f fd) (T : Bl mg)
    (G_law_draw : FnOk P w K mg base CX0 1 fD fdD ["bag", "many"] spDraw) (C_law_draw : Callee K mg "_law_draw" fD fdD ["bag", "many"])
    (G_law_pick : FnOk P w K mg base CX0 2 fP fdP ["bag", "row"] spPick) (C_law_pick : Callee K mg "_law_pick" fP fdP ["bag", "row"]) :
    FnOk P w K mg base CX0 3 f fd ["bag", "n"] spOwners := by
  refine F.ok sc_law_owners (fun vs H Q E h => ?_) (fun cdv A outer s H vs Q E hr h => ?_)
  · obtain ⟨d, l, n, rfl, _⟩ := h
    rfl
  · obtain ⟨d, l, n, rfl, hD, h0, h1, q⟩ := h
    refine ⟨_, (pss_cons (ps_set (i := 2) sc_law_owners.nd rfl (Or.inl rfl) (pe_call G_law_draw (hr.mono (by decide)) (by rfl) C_law_draw.m C_law_draw.k C_law_draw.b .nil pass0 (pa_cons (pv 0) (pa_cons pe_int pa_nil))))
 (pss_cons (ps_if (pt_cmpR op_eq (pv 2) pe_int (nomark _)) (pss_one (ps_ret (pe_op op_mulS (pe_call G_law_pick (hr.mono (by decide)) (by rfl) C_law_pick.m C_law_pick.k C_law_pick.b .nil pass0 (pa_cons (pv 0) (pa_cons (pe_lst (pa_cons pe_str (pa_cons pe_str pa_nil))) pa_nil))) (pv 1)))) pss_nil)
 (pss_cons (ps_if (pt_cmpR op_eq (pv 2) pe_int (nomark _)) (pss_one (ps_ret (pe_slice sl_str (pe_op op_mulS (pe_call G_law_pick (hr.mono (by decide)) (by rfl) C_law_pick.m C_law_pick.k C_law_pick.b .nil pass0 (pa_cons (pv 0) (pa_cons (pe_lst (pa_cons pe_str (pa_cons pe_str pa_nil))) pa_nil))) (pv 1)) po_none (po_some (pv 1))))) pss_nil)
 (pss_cons (ps_if (pt_cmpR op_eq (pv 2) pe_int (nomark _)) (pss_cons (ps_set (i := 3) sc_law_owners.nd rfl (Or.inl rfl) (pe_call G_law_draw (hr.mono (by decide)) (by rfl) C_law_draw.m C_law_draw.k C_law_draw.b .nil pass0 (pa_cons (pv 0) (pa_cons (pe_op op_add (pv 1) pe_int) pa_nil))))
 (pss_one (ps_ret (pe_ifExp (pt_cmpR op_gt (pe_call G_law_draw (hr.mono (by decide)) (by rfl) C_law_draw.m C_law_draw.k C_law_draw.b .nil pass0 (pa_cons (pv 0) (pa_cons pe_int pa_nil))) pe_int (nomark _)) (pe_op op_addSt (pe_op op_mulS pe_str (pv 3)) (pe_op op_mulS pe_str (pe_op op_sub (pv 1) (pv 3)))) (pe_op op_addSt (pe_op op_mulS pe_str (pv 3)) (pe_op op_mulS pe_str (pe_op op_sub (pv 1) (pv 3)))))))) pss_nil)
 (pss_one (ps_ret (pe_joinN pe_str (pe_lc (own := [("k", 4)]) (g := gName 4) rfl sc_law_owners.nd (pi_range1 (by rfl) T.range (pa_cons (pv 1) pa_nil)) (blkOk_by (own := [("k", 4)]) (N := ["bag", "n", "way", "cut", "k"]) (sc := defScope s_law_owners) (by decide +kernel)) (fun _ _ _ _ _ => (pg_name (i := 4) sc_law_owners.nd rfl (Or.inl rfl))) (fun _ _ _ _ _ => pts_nil) (fun _ _ _ _ _ => (pe_call G_law_pick (hr.mono (by decide)) (by rfl) C_law_pick.m C_law_pick.k C_law_pick.b .nil pass0 (pa_cons (pv 0) (pa_cons (pe_lst (pa_cons pe_str (pa_cons pe_str pa_nil))) pa_nil)))))))))))), ?_⟩
    refine rd_start (σ' := [some (.ref d), some (.int n), none, none, none]) rfl ?_
    have own : ∀ {z : Str} {H' : Hp}, Gl d l H H' → OwnS (n.toNat * 1) z → Q (.str z) H' := fun g h => q _ _ g (by rw [Nat.mul_one] at h; exact h)
    have cut : ∀ {z : Str}, OwnS 2 z → OwnS n.toNat (cutS (repS z n) none (some n)) := fun h => by
      have z := own_cut (n := n.toNat) (own_rep h h0) (by omega)
      rw [Int.toNat_of_nonneg h0] at z
      exact z
    have len : ∀ {z : Str}, OwnS 2 z → (repS z n).length ≤ sizeLine := fun h => by
      rw [(own_rep h h0).1, sizeLine_eq]
      omega
    walk_at "rds"
    refine ⟨d, l, _, rfl, hD, by omega, by omega, fun r H1 g1 r0 r1 => ?_⟩
    walk_at "rds"
    refine rd_ite (fun c => ?_) (fun c => ?_)
    · walk_at "rds"
      refine ⟨by decide, fun b hb => ?_⟩
      have g2 := Gl.new (o := .lst [V.str "e", V.str "s"]) g1.dk hb
      refine ⟨d, l, b, _, rfl, g2.dk, upd_same, (g1.dk.off hb).1, (g1.dk.off hb).2, by decide, by decide, fun y H3 g3 hy => ?_⟩
      obtain ⟨z, rfl, hz⟩ := own_of_two own_e own_s hy
      walk_at "rds"
      exact rd_mulS h0 (by omega) (by rw [hz.1]; decide) (by rw [hz.1]; decide) (own ((g1.trans g2).trans g3) (own_rep hz h0))
    walk_at "rds"
    refine rd_ite (fun c2 => ?_) (fun c2 => ?_)
    · walk_at "rds"
      refine ⟨by decide, fun b hb => ?_⟩
      have g2 := Gl.new (o := .lst [V.str "es", V.str "se"]) g1.dk hb
      refine ⟨d, l, b, _, rfl, g2.dk, upd_same, (g1.dk.off hb).1, (g1.dk.off hb).2, by decide, by decide, fun y H3 g3 hy => ?_⟩
      obtain ⟨z, rfl, hz⟩ := own_of_two (k := 2) ⟨rfl, by decide⟩ ⟨rfl, by decide⟩ hy
      walk_at "rds"
      refine rd_mulS h0 (by omega) (by rw [hz.1]; decide) (by rw [hz.1]; decide) ?_
      walk_at "rds"
      exact rd_slS (len hz) (q _ _ ((g1.trans g2).trans g3) (cut hz))
    walk_at "rds"
    refine rd_ite (fun c4 => ?_) (fun c4 => ?_)
    · walk_at "rds"
      refine ⟨d, l, _, rfl, g1.dk, by omega, by omega, fun k H3 g3 k0 k1 => ?_⟩
      walk_at "rds"
      have oe := own_rep own_e k0
      have os := own_rep own_s (n := n - k) (by omega)
      have oe' := own_rep own_e (n := n - k) (by omega)
      have os' := own_rep own_s k0
      have sum : k.toNat * 1 + (n - k).toNat * 1 = n.toNat * 1 := by omega
      refine ⟨d, l, 3, rfl, g3.dk, by decide, by decide, fun u H4 g4 u0 u1 => ?_⟩
      have g14 := (g1.trans g3).trans g4
      walk_at "rds"
      refine rd_ite (fun c5 => ?_) (fun c5 => ?_)
      · walk_at "rds"
        refine rd_mulS k0 (by omega) (by decide) (by decide) ?_
        walk_at "rds"
        refine rd_mulS (by omega) (by omega) (by decide) (by decide) ?_
        refine rd_addSt (by rw [oe.1, os.1, sizeLine_eq]; omega) ?_
        exact own g14 (sum ▸ own_add oe os)
      · walk_at "rds"
        refine rd_mulS k0 (by omega) (by decide) (by decide) ?_
        walk_at "rds"
        refine rd_mulS (by omega) (by omega) (by decide) (by decide) ?_
        refine rd_addSt (by rw [os'.1, oe'.1, sizeLine_eq]; omega) ?_
        exact own g14 (sum ▸ own_add os' oe')
    · walk_at "rds"
      refine rd_rng1 (by omega) (by omega) ?_
      refine lc_glR (fun i acc => ∃ ys : List Str, acc = ys.map V.str ∧ ys.length = i ∧ ∀ y ∈ ys, OwnS 1 y) (σx := fun x => [some (.ref d), some (.int n), some (.int r), none, some x])
        g1.dk (by omega) (fun _ => rfl) (fun _ => rfl) ⟨[], rfl, rfl, nofun⟩ (fun i hi acc H3 N S g3 hP kN kS => ?_) fun D acc H3 g3 eD hacc hP => ?_
      · obtain ⟨ys, rfl, rfl, hy⟩ := hP
        walk_at "rds"
        refine ⟨by decide, fun b hb => ?_⟩
        have g4 := Gl.new (o := .lst [V.str "e", V.str "s"]) g3.dk hb
        refine ⟨d, l, b, _, rfl, g4.dk, upd_same, (g3.dk.off hb).1, (g3.dk.off hb).2, by decide, by decide, fun y H5 g5 hy5 => ?_⟩
        obtain ⟨z, rfl, hz⟩ := own_of_two own_e own_s hy5
        refine kN _ _ (g4.trans g5) ⟨ys ++ [z], by rw [List.map_append] <;> rfl, by rw [List.length_append] <;> rfl, fun y hy' => ?_⟩
        rcases List.mem_append.mp hy' with h | h
        · exact hy y h
        · rw [List.mem_singleton.mp h]
          exact hz
      · obtain ⟨ys, rfl, e, hy⟩ := hP
        refine rd_join (SqL.of hacc) ?_ (own (g1.trans g3) ?_)
        · have z : ("" : Str).length = 0 := rfl
          rw [own_sum hy, z]
          omega
        · have z := own_join hy
          rw [e] at z
          rw [Nat.mul_one]
          exact z
end
end KA
set_option Elab.async false
set_option linter.all false
set_option maxRecDepth 100000
set_option maxHeartbeats 400000
namespace KA
open PySem PySem.Spec PyProof.Rows L2 Ea
local macro_rules | `(tactic| walk_at "rd") => `(tactic| first
  | (with_reducible refine rd_seq ?_) | (with_reducible refine rd_asg ?_) | (with_reducible refine rd_if ?_) | (with_reducible refine rd_ret ?_) | (with_reducible refine rd_next ?_)
  | (with_reducible refine rd_drop ?_) | ((with_reducible refine rd_name (σ' := ?ss) ?hs ?_); (case hs => (dsimp only [List.set]; exact rfl)))
  | ((with_reducible refine rd_var (v := ?vv) ?hv ?_); (case hv => exact rfl)) | (with_reducible refine rd_c ?_) | (with_reducible refine rd_op ?_) | (with_reducible refine rd_un ?_)
  | (with_reducible refine rd_I0 ?_) | (with_reducible refine rd_U ?_) | (with_reducible refine rd_test ?_) | (with_reducible refine rd_B ?_) | (with_reducible refine rd_k ?_)
  | (with_reducible refine rd_not ?_) | (with_reducible refine rd_and ?_) | (with_reducible refine rd_or ?_) | (with_reducible refine rd_ifE ?_)
  | (with_reducible refine rd_par ?_) | ((with_reducible refine rd_par2 (σ' := ?ss) ?hs ?_); (case hs => (dsimp only [List.set]; exact rfl)))
  | (with_reducible refine rd_gsub ?_) | (with_reducible refine rd_andV ?_) | (with_reducible refine rd_orV ?_) | (with_reducible refine rd_notV ?_)
  | (with_reducible refine rd_lc ?_) | (with_reducible refine rd_iTup ?_) | (with_reducible refine rd_iList ?_) | (with_reducible refine rd_iRng1 ?_)
  | (with_reducible refine rd_yes ?_) | (with_reducible refine rd_true ?_) | (with_reducible refine rd_false ?_) | (with_reducible refine rd_m1 ?_) | (with_reducible refine rd_isS ?_)
  | ((with_reducible refine rd_eq ?hs ?_); (case hs => exact rfl)) | ((with_reducible refine rd_ne ?hs ?_); (case hs => exact rfl))
  | (with_reducible refine rd_listRg ?_) | (with_reducible refine rd_rg2 ?_) | (with_reducible refine rd_rgk ?_)
  | (with_reducible refine rd_dnew ?_) | (with_reducible refine rd_ddel ?_) | (with_reducible refine rd_kw ?_) | (with_reducible refine rd_callS ?_) | (with_reducible refine rd_dc ?_) | (with_reducible refine rd_for ?_) | (with_reducible refine rd_tru ?_) | (with_reducible refine rd_truI ?_)
  | (with_reducible refine rd_nil ?_) | (with_reducible refine rd_cons ?_) | (with_reducible refine rd_call ?_) | (with_reducible refine rd_cb ?_)
  | (with_reducible refine rd_tup ?_) | (with_reducible refine rd_lst ?_) | (with_reducible refine rd_dget ?_) | (with_reducible refine rd_dput ?_) | (with_reducible refine rd_sl ?_)
  | (with_reducible refine rd_nopart ?_) | (with_reducible refine rd_part ?_) | (with_reducible refine rd_parti ?_) | (with_reducible refine rd_bm ?_) | (with_reducible refine rd_bm0 ?_)
  | (with_reducible refine rd_int ?_) | (with_reducible refine rd_intb ?_) | (with_reducible refine rd_abs ?_) | (with_reducible refine rd_min2 ?_) | (with_reducible refine rd_max2 ?_))
local macro_rules | `(tactic| walk_at "rds") => `(tactic| repeat (walk_at "rd"))
local macro_rules | `(tactic| walk_at "rq") => `(tactic| first
  | (with_reducible refine rd_seq ?_) | (with_reducible refine rd_asg ?_) | (with_reducible refine rd_ret ?_) | (with_reducible refine rd_next ?_)
  | (with_reducible refine rd_drop ?_) | ((with_reducible refine rd_name (σ' := ?ss) ?hs ?_); (case hs => (dsimp only [List.set]; exact rfl)))
  | ((with_reducible refine rd_var (v := ?vv) ?hv ?_); (case hv => exact rfl)) | (with_reducible refine rd_c ?_) | (with_reducible refine rd_op ?_) | (with_reducible refine rd_un ?_)
  | (with_reducible refine rd_I0 ?_) | (with_reducible refine rd_U ?_) | (with_reducible refine rd_test ?_) | (with_reducible refine rd_B ?_) | (with_reducible refine rd_k ?_)
  | (with_reducible refine rd_not ?_) | (with_reducible refine rd_and ?_) | (with_reducible refine rd_or ?_) | (with_reducible refine rd_ifE ?_)
  | (with_reducible refine rd_par ?_) | ((with_reducible refine rd_par2 (σ' := ?ss) ?hs ?_); (case hs => (dsimp only [List.set]; exact rfl)))
  | (with_reducible refine rd_gsub ?_) | (with_reducible refine rd_andV ?_) | (with_reducible refine rd_orV ?_) | (with_reducible refine rd_notV ?_)
  | (with_reducible refine rd_lc ?_) | (with_reducible refine rd_iTup ?_) | (with_reducible refine rd_iList ?_) | (with_reducible refine rd_iRng1 ?_)
  | (with_reducible refine rd_yes ?_) | (with_reducible refine rd_true ?_) | (with_reducible refine rd_false ?_) | (with_reducible refine rd_m1 ?_) | (with_reducible refine rd_isS ?_)
  | ((with_reducible refine rd_eq ?hs ?_); (case hs => exact rfl)) | ((with_reducible refine rd_ne ?hs ?_); (case hs => exact rfl))
  | (with_reducible refine rd_listRg ?_) | (with_reducible refine rd_rg2 ?_) | (with_reducible refine rd_rgk ?_)
  | (with_reducible refine rd_dnew ?_) | (with_reducible refine rd_ddel ?_) | (with_reducible refine rd_kw ?_) | (with_reducible refine rd_callS ?_) | (with_reducible refine rd_dc ?_) | (with_reducible refine rd_for ?_) | (with_reducible refine rd_tru ?_) | (with_reducible refine rd_truI ?_)
  | (with_reducible refine rd_nil ?_) | (with_reducible refine rd_cons ?_) | (with_reducible refine rd_call ?_) | (with_reducible refine rd_cb ?_)
  | (with_reducible refine rd_tup ?_) | (with_reducible refine rd_lst ?_) | (with_reducible refine rd_dget ?_) | (with_reducible refine rd_dput ?_) | (with_reducible refine rd_sl ?_)
  | (with_reducible refine rd_nopart ?_) | (with_reducible refine rd_part ?_) | (with_reducible refine rd_parti ?_) | (with_reducible refine rd_bm ?_) | (with_reducible refine rd_bm0 ?_)
  | (with_reducible refine rd_int ?_) | (with_reducible refine rd_intb ?_) | (with_reducible refine rd_abs ?_) | (with_reducible refine rd_min2 ?_) | (with_reducible refine rd_max2 ?_))
local macro_rules | `(tactic| walk_at "rqs") => `(tactic| repeat (walk_at "rq"))

section
variable {P : Program} {w : World} {K : PySem.W.Frag} {mg : Str → Option Value} {base : Heap}
def spDeck (K : PySem.W.Frag) : Sp := fun vs H Q _ => ∃ (a : Addr) (ns : List Int), vs = [.ref a] ∧ SqL K H a (ns.map V.int) ∧ ns.length ≤ 63 ∧
  ∀ (d l : Addr) (H' : Hp), Evl.Ex H H' → H d = none → H l = none → DeckL d l H' → Q (.ref d) H'
theorem ok_deck {f : Addr} {fd : FuncData} (F : Fun K "_law_bag" "_law_bag" s_law_bag f fd) (T : Bl mg) : FnOk P w K mg base CX0 1 f fd ["script"] (spDeck K) := by
  refine F.ok sc_law_bag (fun vs H Q E h => ?_) (fun cdv A outer s H vs Q E hr h => ?_)
  · obtain ⟨a, ns, rfl, _⟩ := h
    rfl
  · obtain ⟨a, ns, rfl, ha, hl, q⟩ := h
    refine ⟨_, (pss_cons (ps_par (i := 2) (j := 3) rfl sc_law_bag.nd rfl rfl (by decide) rfl rfl (pa_cons (pe_lc (own := [("cell", 1)]) (g := gName 1) rfl sc_law_bag.nd (ik_listI (K := K) rfl (pe_slice (sk_list (K := K) rfl) (pv 0) po_none (po_some pe_int))) (blkOk_by (own := [("cell", 1)]) (N := ["script", "cell", "cells", "stirred"]) (sc := defScope s_law_bag) (by decide +kernel)) (fun _ _ _ _ _ => (pg_name (i := 1) sc_law_bag.nd rfl (Or.inl rfl))) (fun _ _ _ _ _ => pts_nil) (fun _ _ _ _ _ => (pe_op op_add (pe_op op_mul pe_int (pe_callB c_abs (by rfl) T.abs (by decide +kernel) (pa_cons (pv 1) pa_nil))) (pe_callTy c_int (by rfl) T.int (by decide +kernel) (pa_cons (pe_cmpR op_lt (pv 1) pe_int (nomark _)) pa_nil))))) (pa_cons (pe_op op_add pe_int (pe_callB (c_len (K := K) rfl) (by rfl) T.len (by decide +kernel) (pa_cons (pv 0) pa_nil))) pa_nil)) (by rfl))
 (pss_cons (ps_for PassesOwn.never rfl (ik_listI (K := K) rfl (pv 2)) (pg_name (i := 1) sc_law_bag.nd rfl (Or.inl rfl)) (pss_one (ps_set (i := 3) sc_law_bag.nd rfl (Or.inl rfl) (pe_op op_mod (pe_callTy c_int (by rfl) T.int (by decide +kernel) (pa_cons (pe_op op_add (pe_op op_add (pe_op op_mul (pv 3) pe_int) (pv 1)) pe_int) pa_nil)) pe_int))))
 (pss_one (ps_ret (pe_lst (pa_cons (pe_lc (own := [("cell", 1)]) (g := gName 1) rfl sc_law_bag.nd (ik_listI (K := K) rfl (pv 2)) (blkOk_by (own := [("cell", 1)]) (N := ["script", "cell", "cells", "stirred"]) (sc := defScope s_law_bag) (by decide +kernel)) (fun _ _ _ _ _ => (pg_name (i := 1) sc_law_bag.nd rfl (Or.inl rfl))) (fun _ _ _ _ _ => (pts_one (pt_cmpR op_gt (pv 1) (pe_op op_pow pe_int pe_int) (nomark _)))) (fun _ _ _ _ _ => (pv 1))) (pa_cons (pv 3) (pa_cons pe_int pa_nil)))))))), ?_⟩
    refine rd_start (σ' := [some (.ref a), none, none, none]) rfl ?_
    walk_at "rds"
    refine rd_slL ha fun u hu => ?_
    have hn : ns.length < 100000 := by omega
    rw [show ((63 : Int)) = ((63 : Nat) : Int) from rfl, cut_take (by omega), List.take_of_length_le (by rw [List.length_map]; exact hl)]
    have e1 := Evl.Ex.new (o := .lst (ns.map V.int)) hu
    refine rd_refL (SqL.of upd_same) ?_
    refine lc_fmL (fun _ => true) (fun x => .int (2 * (x.natAbs : Int) + if decide (x < 0) = true then 1 else 0)) (σx := fun x => [some (.ref a), some x, none, none]) (SqL.of upd_same) (by omega) (fun _ => rfl) (fun _ => rfl)
      (fun x hx H' N S e kN kS => ?_) fun D H2 e2 eD hD => ?_
    · walk_at "rds"
      refine rd_I (.inl ⟨by decide, by decide⟩) ?_
      walk_at "rds"
      exact kN rfl _ (Evl.Ex.refl _)
    have hm : ∃ ms : List Int, ((ns.filter fun _ => true).map fun x => V.int (2 * (x.natAbs : Int) + if decide (x < 0) = true then 1 else 0)) = ms.map V.int ∧ ms.length ≤ 63 ∧ ∀ m ∈ ms, 0 ≤ m := by
      rw [List.filter_eq_self.mpr fun _ _ => rfl]
      refine ⟨ns.map fun x => 2 * (x.natAbs : Int) + if decide (x < 0) = true then 1 else 0, by rw [List.map_map] <;> rfl, by rw [List.length_map]; exact hl, fun m h => ?_⟩
      obtain ⟨x, _, rfl⟩ := List.mem_map.mp h
      split <;> omega
    obtain ⟨ms, em, lm, m0⟩ := hm
    rw [em] at hD
    have e12 := e1.trans e2
    walk_at "rds"
    refine rd_lenL (Evl.ex_l e12 ha) ?_
    rw [List.length_map]
    walk_at "rds"
    refine rd_refL (SqL.of hD) ?_
    refine fr_list (xs := ms.map V.int) (fun i σ' H' => ∃ (c : Option V) (m : Int), σ' = [some (.ref a), c, some (.ref D), some (.int m)] ∧ H' = H2 ∧ 0 ≤ m ∧ m < 4294967291)
      ⟨_, _, rfl, rfl, by omega, by omega⟩ (fun i σ' H' _ ⟨_, _, _, e, _⟩ => by rw [e]; exact SqL.of hD) (fun i x σ' H' hi hP => ?_) fun σ' H' hP => ?_
    · obtain ⟨c, m, rfl, rfl, p0, p1⟩ := hP
      rw [List.getElem?_map] at hi
      obtain ⟨t, ht, rfl⟩ := Option.map_eq_some_iff.mp hi
      refine rd_start (σ' := [some (.ref a), some (.int t), some (.ref D), some (.int m)]) rfl ?_
      walk_at "rds"
      refine rd_I (.inr ⟨by decide, by decide⟩) ?_
      walk_at "rds"
      refine rd_I (by decide) ?_
      walk_at "rds"
      exact ⟨_, _, rfl, rfl, Int.emod_nonneg _ (by decide), Int.emod_lt_of_pos _ (by decide)⟩
    · obtain ⟨c, m, rfl, rfl, p0, p1⟩ := hP
      walk_at "rds"
      refine rd_refL (SqL.of hD) ?_
      refine lc_fmL (fun x => decide ((10 : Int) ^ 15 < x)) V.int (σx := fun x => [some (.ref a), some x, some (.ref D), some (.int m)]) (SqL.of hD) (by omega) (fun _ => rfl) (fun _ => rfl)
        (fun x hx H' N S e kN kS => ?_) fun D3 H3 e3 eD3 hD3 => ?_
      · walk_at "rds"
        refine rd_I ⟨by decide, by decide, by decide⟩ ?_
        walk_at "rds"
        refine rd_ite (fun c => ?_) (fun c => ?_)
        · walk_at "rds"
          exact kN (decide_eq_true c) _ (Evl.Ex.refl _)
        · exact kS (decide_eq_false c) _ (Evl.Ex.refl _)
      walk_at "rds"
      refine ⟨(by show 3 ≤ sizeLine; decide), fun d hd => ?_⟩
      have e13 := e12.trans e3
      have hdD : D3 ≠ d := ne_of_none hD3 hd
      refine q d D3 _ (e13.trans (Evl.Ex.new hd)) (Evl.fresh_back e13 hd) (Evl.fresh_back e12 eD3) ⟨ms.filter fun x => decide ((10 : Int) ^ 15 < x), m, 0, upd_same, (upd_ne hdD).trans hD3, ?_, fun n hn => m0 n (List.mem_filter.mp hn).1, p0, p1⟩
      have := List.length_filter_le (fun x => decide ((10 : Int) ^ 15 < x)) ms
      omega
end
end KA
set_option Elab.async false
set_option linter.all false
set_option maxRecDepth 100000
set_option maxHeartbeats 400000
set_option pp.maxSteps 300
namespace Ea
open PySem PySem.Spec PyProof.Rows L2
/-- an if, its ends brought together -/
theorem rd_ifI {tt : TT} {ts tz : TS} {D : Ends} {σ : L2.St} {H : Hp} (I : L2.St → Hp → Prop) (h1 : ∀ N : L2.St → Hp → Prop, (∀ σ' H', I σ' H' → N σ' H') → tIfS tt ts tz { D with nx := N } σ H) (h : ∀ σ' H', I σ' H' → D.nx σ' H') : tIfS tt ts tz D σ H := h1 D.nx h
theorem rd_ifV {tt : TT} {te tz : TE} {σ : L2.St} {H : Hp} {Q : VK} (I : V → Hp → Prop) (h1 : ∀ Q' : VK, (∀ v H', I v H' → Q' v H') → tIf tt te tz σ H Q') (h : ∀ v H', I v H' → Q v H') : tIf tt te tz σ H Q := h1 Q h
section
variable {K : PySem.W.Frag} {σ : L2.St} {H : Hp} {tb : TS} {D : Ends} {j1 j2 k : Nat} {n : Nat} {px py : Nat → V} {J : It}
/-- a for over pairs that are made for it -/
theorem fr_pairs (hk : k = 2) (Pv : Nat → L2.St → Hp → Prop) (h0 : Pv 0 σ H) (go : ∀ i σ H', Pv i σ H' → i < n → J.go i H') (stop : ∀ σ H', Pv n σ H' → J.stop n H')
    (yld : ∀ i σ H1 x H2, Pv i σ H1 → i < n → J.yld i H1 x H2 → ∃ T, x = .ref T ∧ H1 T = none ∧ H2 = upd H1 T (.tup [px i, py i]))
    (hs : ∀ i σ H1 T, i < n → Pv i σ H1 → H1 T = none → tb { D with nx := Pv (i + 1), ct := Pv (i + 1), bk := D.nx } ((σ.set j1 (some (px i))).set j2 (some (py i))) (upd H1 T (.tup [px i, py i])))
    (hd : ∀ σ H, Pv n σ H → D.nx σ H) : ForR (gTup K k (gCons (gName j1) (gCons (gName j2) gNil))) tb D σ J H := by
  refine ⟨fun i m σ' H' => i + m = n ∧ Pv i σ' H', ⟨n, by omega, h0⟩, fun i m σ' H' hW => ?_⟩
  obtain ⟨em, hp⟩ := hW
  by_cases hi : i < n
  · refine .inr ⟨go i σ' H' hp hi, Pv (i + 1), fun σ2 H2 h2 => ⟨m - 1, by omega, by omega, h2⟩, fun x H2 hy => ?_⟩
    obtain ⟨T, rfl, hT, rfl⟩ := yld i σ' H' x H2 hp hi hy
    exact rd_gtup2 (x := px i) (y := py i) (SqT.of upd_same) hk rfl (hs i σ' H' T hi hp hT)
  · have hin : i = n := by omega
    subst hin
    exact .inl ⟨stop σ' H' hp, hd σ' H' hp⟩
theorem fr_enumT {a : Addr} {xs : List V} (hk : k = 2) (Pv : Nat → L2.St → Hp → Prop) (h0 : Pv 0 σ H) (hl : ∀ i σ H, Pv i σ H → SqT K H a xs)
    (hs : ∀ i σ H1 T, i < xs.length → Pv i σ H1 → H1 T = none → tb { D with nx := Pv (i + 1), ct := Pv (i + 1), bk := D.nx } ((σ.set j1 (some (.int (i : Nat)))).set j2 (some (xs.getD i .non))) (upd H1 T (.tup [.int (i : Nat), xs.getD i .non])))
    (hd : ∀ σ H, Pv xs.length σ H → D.nx σ H) : ForR (gTup K k (gCons (gName j1) (gCons (gName j2) gNil))) tb D σ (IteT K a) H :=
  fr_pairs (px := fun i => .int (i : Nat)) (py := fun i => xs.getD i .non) hk Pv h0 (fun i σ H' p hi => ⟨xs, xs[i], hl i σ H' p, List.getElem?_eq_getElem hi⟩) (fun σ H' p => ⟨xs, hl _ σ H' p, rfl⟩)
    (fun i σ H1 x H2 p hi hy => by
      obtain ⟨T, y, rfl, hT, rfl, h⟩ := hy
      have := h xs (hl i σ H1 p)
      refine ⟨T, rfl, hT, ?_⟩
      show _ = upd H1 T (.tup [.int (i : Nat), xs.getD i .non])
      rw [List.getD_eq_getElem?_getD, this] <;> rfl) hs hd
theorem fr_enumL {a : Addr} {xs : List V} (hk : k = 2) (Pv : Nat → L2.St → Hp → Prop) (h0 : Pv 0 σ H) (hl : ∀ i σ H, Pv i σ H → SqL K H a xs)
    (hs : ∀ i σ H1 T, i < xs.length → Pv i σ H1 → H1 T = none → tb { D with nx := Pv (i + 1), ct := Pv (i + 1), bk := D.nx } ((σ.set j1 (some (.int (i : Nat)))).set j2 (some (xs.getD i .non))) (upd H1 T (.tup [.int (i : Nat), xs.getD i .non])))
    (hd : ∀ σ H, Pv xs.length σ H → D.nx σ H) : ForR (gTup K k (gCons (gName j1) (gCons (gName j2) gNil))) tb D σ (Ite K a) H :=
  fr_pairs (px := fun i => .int (i : Nat)) (py := fun i => xs.getD i .non) hk Pv h0 (fun i σ H' p hi => ⟨xs, xs[i], hl i σ H' p, List.getElem?_eq_getElem hi⟩) (fun σ H' p => ⟨xs, hl _ σ H' p, Nat.le_refl _⟩)
    (fun i σ H1 x H2 p hi hy => by
      obtain ⟨T, y, rfl, hT, rfl, h⟩ := hy
      have := h xs (hl i σ H1 p)
      refine ⟨T, rfl, hT, ?_⟩
      show _ = upd H1 T (.tup [.int (i : Nat), xs.getD i .non])
      rw [List.getD_eq_getElem?_getD, this] <;> rfl) hs hd
/-- a for over a list of triples -/
theorem fr_listT3 {a : Addr} {xs : List V} {j3 : Nat} {px py pz : Nat → V} (hk : k = 3) (Pv : Nat → L2.St → Hp → Prop) (h0 : Pv 0 σ H) (hl : ∀ i σ H, i ≤ xs.length → Pv i σ H → SqL K H a xs)
    (hs : ∀ i σ H, i < xs.length → Pv i σ H → ∃ T, xs[i]? = some (.ref T) ∧ SqT K H T [px i, py i, pz i] ∧ tb { D with nx := Pv (i + 1), ct := Pv (i + 1), bk := D.nx } (((σ.set j1 (some (px i))).set j2 (some (py i))).set j3 (some (pz i))) H) (hd : ∀ σ H, Pv xs.length σ H → D.nx σ H) :
    ForR (gTup K k (gCons (gName j1) (gCons (gName j2) (gCons (gName j3) gNil)))) tb D σ (Itl K a) H := for_list Pv h0 hl (fun i x σ H hi p => by
      obtain ⟨T, hT, sT, q⟩ := hs i σ H (List.getElem?_eq_some_iff.mp hi).1 p
      rw [hT] at hi
      cases hi
      exact rd_gtup3 sT hk rfl q) hd
theorem fr_listP {a : Addr} {xs : List V} {px py : Nat → V} (hk : k = 2) (Pv : Nat → L2.St → Hp → Prop) (h0 : Pv 0 σ H) (hl : ∀ i σ H, i ≤ xs.length → Pv i σ H → SqL K H a xs)
    (hs : ∀ i σ H, i < xs.length → Pv i σ H → ∃ T, xs[i]? = some (.ref T) ∧ SqT K H T [px i, py i] ∧ tb { D with nx := Pv (i + 1), ct := Pv (i + 1), bk := D.nx } ((σ.set j1 (some (px i))).set j2 (some (py i))) H) (hd : ∀ σ H, Pv xs.length σ H → D.nx σ H) :
    ForR (gTup K k (gCons (gName j1) (gCons (gName j2) gNil))) tb D σ (Itl K a) H := for_list Pv h0 hl (fun i x σ H hi p => by
      obtain ⟨T, hT, sT, q⟩ := hs i σ H (List.getElem?_eq_some_iff.mp hi).1 p
      rw [hT] at hi
      cases hi
      exact rd_gtup2 sT hk rfl q) hd
end
end Ea
namespace KA
open PySem PySem.Spec PyProof.Rows L2 Ea
abbrev s_law_unlike : Stmt := topS 21
theorem sc_law_unlike : FnScope ["rows", "found", "row"] ["rows"] (defScope s_law_unlike) :=
  ⟨rfl, rfl, rfl, by decide +kernel, rfl, by decide +kernel, by decide +kernel⟩
local macro_rules | `(tactic| walk_at "rd") => `(tactic| first
  | (with_reducible refine rd_seq ?_) | (with_reducible refine rd_asg ?_) | (with_reducible refine rd_if ?_) | (with_reducible refine rd_ret ?_) | (with_reducible refine rd_next ?_)
  | (with_reducible refine rd_drop ?_) | ((with_reducible refine rd_name (σ' := ?ss) ?hs ?_); (case hs => (dsimp only [List.set]; exact rfl)))
  | ((with_reducible refine rd_var (v := ?vv) ?hv ?_); (case hv => exact rfl)) | (with_reducible refine rd_c ?_) | (with_reducible refine rd_op ?_) | (with_reducible refine rd_un ?_)
  | (with_reducible refine rd_I0 ?_) | (with_reducible refine rd_U ?_) | (with_reducible refine rd_test ?_) | (with_reducible refine rd_B ?_) | (with_reducible refine rd_k ?_)
  | (with_reducible refine rd_not ?_) | (with_reducible refine rd_and ?_) | (with_reducible refine rd_or ?_) | (with_reducible refine rd_ifE ?_)
  | (with_reducible refine rd_par ?_) | ((with_reducible refine rd_par2 (σ' := ?ss) ?hs ?_); (case hs => (dsimp only [List.set]; exact rfl)))
  | (with_reducible refine rd_gsub ?_) | (with_reducible refine rd_andV ?_) | (with_reducible refine rd_orV ?_) | (with_reducible refine rd_notV ?_)
  | (with_reducible refine rd_lc ?_) | (with_reducible refine rd_iTup ?_) | (with_reducible refine rd_iList ?_) | (with_reducible refine rd_iRng1 ?_) | (with_reducible refine rd_iRng2 ?_) | (with_reducible refine rd_iEnumT ?_) | (with_reducible refine rd_iEnum ?_) | (with_reducible refine rd_iZipM ?_) | (with_reducible refine rd_iEnumS ?_) | (with_reducible refine rd_iKeys ?_) | (with_reducible refine rd_din ?_) | (with_reducible refine rd_dnotin ?_)
  | (with_reducible refine rd_yes ?_) | (with_reducible refine rd_true ?_) | (with_reducible refine rd_false ?_) | (with_reducible refine rd_m1 ?_) | (with_reducible refine rd_isS ?_)
  | ((with_reducible refine rd_eq ?hs ?_); (case hs => exact rfl)) | ((with_reducible refine rd_ne ?hs ?_); (case hs => exact rfl))
  | (with_reducible refine rd_listRg ?_) | (with_reducible refine rd_rg2 ?_) | (with_reducible refine rd_rgk ?_)
  | (with_reducible refine rd_dnew ?_) | (with_reducible refine rd_ddel ?_) | (with_reducible refine rd_kw ?_) | (with_reducible refine rd_callS ?_) | (with_reducible refine rd_dc ?_) | (with_reducible refine rd_for ?_) | (with_reducible refine rd_tru ?_) | (with_reducible refine rd_truI ?_)
  | (with_reducible refine rd_nil ?_) | (with_reducible refine rd_cons ?_) | (with_reducible refine rd_call ?_) | (with_reducible refine rd_cb ?_)
  | (with_reducible refine rd_tup ?_) | (with_reducible refine rd_lst ?_) | (with_reducible refine rd_dget ?_) | (with_reducible refine rd_dput ?_) | (with_reducible refine rd_dget2 ?_) | (with_reducible refine rd_sl ?_)
  | (with_reducible refine rd_nopart ?_) | (with_reducible refine rd_part ?_) | (with_reducible refine rd_parti ?_) | (with_reducible refine rd_bm ?_) | (with_reducible refine rd_bm0 ?_)
  | (with_reducible refine rd_int ?_) | (with_reducible refine rd_intb ?_) | (with_reducible refine rd_abs ?_) | (with_reducible refine rd_min2 ?_) | (with_reducible refine rd_max2 ?_))
local macro_rules | `(tactic| walk_at "rds") => `(tactic| repeat (walk_at "rd"))
local macro_rules | `(tactic| walk_at "rq") => `(tactic| first
  | (with_reducible refine rd_seq ?_) | (with_reducible refine rd_asg ?_) | (with_reducible refine rd_ret ?_) | (with_reducible refine rd_next ?_)
  | (with_reducible refine rd_drop ?_) | ((with_reducible refine rd_name (σ' := ?ss) ?hs ?_); (case hs => (dsimp only [List.set]; exact rfl)))
  | ((with_reducible refine rd_var (v := ?vv) ?hv ?_); (case hv => exact rfl)) | (with_reducible refine rd_c ?_) | (with_reducible refine rd_op ?_) | (with_reducible refine rd_un ?_)
  | (with_reducible refine rd_I0 ?_) | (with_reducible refine rd_U ?_) | (with_reducible refine rd_test ?_) | (with_reducible refine rd_B ?_) | (with_reducible refine rd_k ?_)
  | (with_reducible refine rd_not ?_) | (with_reducible refine rd_and ?_) | (with_reducible refine rd_or ?_) | (with_reducible refine rd_ifE ?_)
  | (with_reducible refine rd_par ?_) | ((with_reducible refine rd_par2 (σ' := ?ss) ?hs ?_); (case hs => (dsimp only [List.set]; exact rfl)))
  | (with_reducible refine rd_gsub ?_) | (with_reducible refine rd_andV ?_) | (with_reducible refine rd_orV ?_) | (with_reducible refine rd_notV ?_)
  | (with_reducible refine rd_lc ?_) | (with_reducible refine rd_iTup ?_) | (with_reducible refine rd_iList ?_) | (with_reducible refine rd_iRng1 ?_) | (with_reducible refine rd_iRng2 ?_) | (with_reducible refine rd_iEnumT ?_) | (with_reducible refine rd_iEnum ?_) | (with_reducible refine rd_iZipM ?_) | (with_reducible refine rd_iEnumS ?_) | (with_reducible refine rd_iKeys ?_) | (with_reducible refine rd_din ?_) | (with_reducible refine rd_dnotin ?_)
  | (with_reducible refine rd_yes ?_) | (with_reducible refine rd_true ?_) | (with_reducible refine rd_false ?_) | (with_reducible refine rd_m1 ?_) | (with_reducible refine rd_isS ?_)
  | ((with_reducible refine rd_eq ?hs ?_); (case hs => exact rfl)) | ((with_reducible refine rd_ne ?hs ?_); (case hs => exact rfl))
  | (with_reducible refine rd_listRg ?_) | (with_reducible refine rd_rg2 ?_) | (with_reducible refine rd_rgk ?_)
  | (with_reducible refine rd_dnew ?_) | (with_reducible refine rd_ddel ?_) | (with_reducible refine rd_kw ?_) | (with_reducible refine rd_callS ?_) | (with_reducible refine rd_dc ?_) | (with_reducible refine rd_for ?_) | (with_reducible refine rd_tru ?_) | (with_reducible refine rd_truI ?_)
  | (with_reducible refine rd_nil ?_) | (with_reducible refine rd_cons ?_) | (with_reducible refine rd_call ?_) | (with_reducible refine rd_cb ?_)
  | (with_reducible refine rd_tup ?_) | (with_reducible refine rd_lst ?_) | (with_reducible refine rd_dget ?_) | (with_reducible refine rd_dput ?_) | (with_reducible refine rd_dget2 ?_) | (with_reducible refine rd_sl ?_)
  | (with_reducible refine rd_nopart ?_) | (with_reducible refine rd_part ?_) | (with_reducible refine rd_parti ?_) | (with_reducible refine rd_bm ?_) | (with_reducible refine rd_bm0 ?_)
  | (with_reducible refine rd_int ?_) | (with_reducible refine rd_intb ?_) | (with_reducible refine rd_abs ?_) | (with_reducible refine rd_min2 ?_) | (with_reducible refine rd_max2 ?_))
local macro_rules | `(tactic| walk_at "rqs") => `(tactic| repeat (walk_at "rq"))
local macro_rules | `(tactic| walk_at "rv") => `(tactic| first
  | (with_reducible refine rd_seq ?_) | (with_reducible refine rd_asg ?_) | (with_reducible refine rd_ret ?_) | (with_reducible refine rd_next ?_)
  | (with_reducible refine rd_drop ?_) | ((with_reducible refine rd_name (σ' := ?ss) ?hs ?_); (case hs => (dsimp only [List.set]; exact rfl)))
  | ((with_reducible refine rd_var (v := ?vv) ?hv ?_); (case hv => exact rfl)) | (with_reducible refine rd_c ?_) | (with_reducible refine rd_op ?_) | (with_reducible refine rd_un ?_)
  | (with_reducible refine rd_I0 ?_) | (with_reducible refine rd_U ?_) | (with_reducible refine rd_test ?_) | (with_reducible refine rd_B ?_) | (with_reducible refine rd_k ?_)
  | (with_reducible refine rd_not ?_) | (with_reducible refine rd_and ?_) | (with_reducible refine rd_or ?_)
  | (with_reducible refine rd_par ?_) | ((with_reducible refine rd_par2 (σ' := ?ss) ?hs ?_); (case hs => (dsimp only [List.set]; exact rfl)))
  | (with_reducible refine rd_gsub ?_) | (with_reducible refine rd_andV ?_) | (with_reducible refine rd_orV ?_) | (with_reducible refine rd_notV ?_)
  | (with_reducible refine rd_lc ?_) | (with_reducible refine rd_iTup ?_) | (with_reducible refine rd_iList ?_) | (with_reducible refine rd_iRng1 ?_) | (with_reducible refine rd_iRng2 ?_) | (with_reducible refine rd_iEnumT ?_) | (with_reducible refine rd_iEnum ?_) | (with_reducible refine rd_iZipM ?_) | (with_reducible refine rd_iEnumS ?_) | (with_reducible refine rd_iKeys ?_) | (with_reducible refine rd_din ?_) | (with_reducible refine rd_dnotin ?_)
  | (with_reducible refine rd_yes ?_) | (with_reducible refine rd_true ?_) | (with_reducible refine rd_false ?_) | (with_reducible refine rd_m1 ?_) | (with_reducible refine rd_isS ?_)
  | ((with_reducible refine rd_eq ?hs ?_); (case hs => exact rfl)) | ((with_reducible refine rd_ne ?hs ?_); (case hs => exact rfl))
  | (with_reducible refine rd_listRg ?_) | (with_reducible refine rd_rg2 ?_) | (with_reducible refine rd_rgk ?_)
  | (with_reducible refine rd_dnew ?_) | (with_reducible refine rd_ddel ?_) | (with_reducible refine rd_kw ?_) | (with_reducible refine rd_callS ?_) | (with_reducible refine rd_dc ?_) | (with_reducible refine rd_for ?_) | (with_reducible refine rd_tru ?_) | (with_reducible refine rd_truI ?_)
  | (with_reducible refine rd_nil ?_) | (with_reducible refine rd_cons ?_) | (with_reducible refine rd_call ?_) | (with_reducible refine rd_cb ?_)
  | (with_reducible refine rd_tup ?_) | (with_reducible refine rd_lst ?_) | (with_reducible refine rd_dget ?_) | (with_reducible refine rd_dput ?_) | (with_reducible refine rd_dget2 ?_) | (with_reducible refine rd_sl ?_)
  | (with_reducible refine rd_nopart ?_) | (with_reducible refine rd_part ?_) | (with_reducible refine rd_parti ?_) | (with_reducible refine rd_bm ?_) | (with_reducible refine rd_bm0 ?_)
  | (with_reducible refine rd_int ?_) | (with_reducible refine rd_intb ?_) | (with_reducible refine rd_abs ?_) | (with_reducible refine rd_min2 ?_) | (with_reducible refine rd_max2 ?_))
local macro_rules | `(tactic| walk_at "rvs") => `(tactic| repeat (walk_at "rv"))

theorem hu65 {A : Around} {k : Nat} (hr : Room k A) : A.units + 65 < cLine := by
  have := hr.un
  omega
def dR (r : List Int) : PyData := .tuple (dI r)
section
variable {K : PySem.W.Frag} {H H' : Hp} {v x : V} {r : List Int} {xs : List V} {ds : List PyData} {d l : Addr}
theorem dp_intsOf : ∀ {xs : List V} {r : List Int}, DpAll K H xs (dI r) → xs = r.map V.int
  | _, [], h => by
    cases h
    rfl
  | _, i :: r, h => by
    cases h with
    | cons h1 h2 =>
      cases h1
      rw [dp_intsOf h2] <;> rfl
theorem dp_row (h : Dp K H v (dR r)) : ∃ a, v = .ref a ∧ SqT K H a (r.map V.int) := by
  unfold dR at h
  cases h with
  | tup hs ha =>
    rw [dp_intsOf ha] at hs
    exact ⟨_, rfl, hs⟩
theorem dp_of_row {a : Addr} (h : SqT K H a (r.map V.int)) : Dp K H (.ref a) (dR r) := dp_T h
theorem dpAll_get : ∀ {xs : List V} {ds : List PyData} {i : Nat}, DpAll K H xs ds → xs[i]? = some x → ∃ d, ds[i]? = some d ∧ Dp K H x d
  | _, _, 0, .cons h _, e => by
    obtain rfl : _ = x := Option.some.inj e
    exact ⟨_, rfl, h⟩
  | _, _, i + 1, .cons _ h, e => dpAll_get (i := i) h e
  | _, _, i, .nil, e => by simp at e
theorem dpAll_len : ∀ {xs : List V} {ds : List PyData}, DpAll K H xs ds → xs.length = ds.length
  | _, _, .nil => rfl
  | _, _, .cons _ h => congrArg (· + 1) (dpAll_len h)
theorem dpAll_app : ∀ {xs ys : List V} {ds es : List PyData}, DpAll K H xs ds → DpAll K H ys es → DpAll K H (xs ++ ys) (ds ++ es)
  | _, _, _, _, .nil, h => h
  | _, _, _, _, .cons h t, h2 => .cons h (dpAll_app t h2)
theorem Gl.dps (g : Gl d l H H') (hD : DeckL d l H) (c : noLs ds = true) (h : DpAll K H xs ds) : DpAll K H' xs ds := dps_mono (fun _ _ t => g.tup hD t) ds xs c h
theorem Gl.dp {e : PyData} (g : Gl d l H H') (hD : DeckL d l H) (c : noL e = true) (h : Dp K H v e) : Dp K H' v e := dp_mono (fun _ _ t => g.tup hD t) e v c h
theorem upd_dps {p : Addr} {ys : List V} {u : HO} (e : H p = some (.lst ys)) (c : noLs ds = true) (h : DpAll K H xs ds) : DpAll K (upd H p u) xs ds := dps_mono (fun _ _ t => tup_upd e lst_not t) ds xs c h
theorem upd_dp {p : Addr} {ys : List V} {u : HO} {e : PyData} (h0 : H p = some (.lst ys)) (c : noL e = true) (h : Dp K H v e) : Dp K (upd H p u) v e := dp_mono (fun _ _ t => tup_upd h0 lst_not t) e v c h
end
theorem noL_ints : ∀ r : List Int, noLs (dI r) = true
  | [] => rfl
  | _ :: r => noL_ints r
def upI (i : Nat) : List Int := (List.range i).map fun j : Nat => 1 + (j : Int)
theorem upI_snoc (i : Nat) : upI (i + 1) = upI i ++ [1 + (i : Int)] := by
  unfold upI
  rw [List.range_succ, List.map_append] <;> rfl
theorem upI_mem {i : Nat} {x : Int} : x ∈ upI i ↔ 1 ≤ x ∧ x ≤ (i : Int) := by
  unfold upI
  rw [List.mem_map]
  constructor
  · rintro ⟨j, hj, rfl⟩
    have := List.mem_range.mp hj
    omega
  · rintro ⟨h1, h2⟩
    exact ⟨(x - 1).toNat, List.mem_range.mpr (by omega), by omega⟩
theorem upI_nodup (i : Nat) : (upI i).Nodup := by
  unfold upI List.Nodup
  rw [List.pairwise_map]
  exact List.pairwise_lt_range.imp fun {i j} h => by omega
theorem upI_length (i : Nat) : (upI i).length = i := by
  unfold upI
  rw [List.length_map, List.length_range]
theorem at_up {n : Nat} {z : Str} {x : Int} (h : OwnS n z) (h1 : 1 ≤ x) (h2 : x ≤ (n : Int)) : atI z.cps.toList (x - 1) = some (sgn z x) := by
  have e : x - 1 = (x.natAbs : Int) - 1 := by omega
  rw [e]
  exact at_sgn h (by omega) (by omega)
theorem held_abs {z h : Str} {y : Int} : heldBy z h (y.natAbs : Int) = heldBy z h y := by
  unfold heldBy sgn
  rw [Int.natAbs_natCast]
/-- a row of literals of n letters -/
structure Cls (n : Nat) (r : List Int) : Prop where
  lit : ∀ x ∈ r, 1 ≤ x.natAbs ∧ x.natAbs ≤ n
  len : r.length ≤ 60
theorem nice_cls {n : Nat} {r : List Int} (h : Cls n r) (hn : n ≤ 60) : Nice 60 1 (dR r) :=
  (Nice.tup (NiceAll.ints fun x hx => by
    have := h.lit x hx
    have : (10 : Nat) ^ 12 = 1000000000000 := by decide
    omega)).mono h.len (Nat.le_refl _)
theorem nice_clss {n : Nat} (hn : n ≤ 60) : ∀ {rs : List (List Int)}, (∀ r ∈ rs, Cls n r) → NiceAll (61 * rs.length) 1 (rs.map dR)
  | [], _ => NiceAll.nil
  | r :: t, h => (NiceAll.cons (nice_cls (h r List.mem_cons_self) hn) (nice_clss hn fun s hs => h s (List.mem_cons_of_mem _ hs))).mono (by rw [List.length_cons]; omega) (Nat.le_refl _)
theorem any_clss {n : Nat} {r : List Int} {rs : List (List Int)} (hn : n ≤ 60) (hr : Cls n r) (h : (rs.map dR).any (fun z => PyData.eqv z (dR r)) = false) : r ∉ rs := fun hm => by
  have := List.any_eq_false.mp h (dR r) (List.mem_map_of_mem hm)
  exact this (SeqAt.eqv_refl _ (nice_cls hr hn).lay)
theorem eqv_ints : ∀ (s r : List Int), PyData.eqv (.tuple (dI s)) (.tuple (dI r)) = true → s = r
  | [], [], _ => rfl
  | [], _ :: _, h => nomatch h
  | _ :: _, [], h => nomatch h
  | x :: s, y :: r, h => by
    have h : (decide (x = y) && PyData.eqv (.tuple (dI s)) (.tuple (dI r))) = true := h
    obtain ⟨h1, h2⟩ := Bool.and_eq_true _ _ |>.mp h
    rw [of_decide_eq_true h1, eqv_ints s r h2]
theorem any_cls {r : List Int} {rs : List (List Int)} (h : (rs.map dR).any (fun z => PyData.eqv z (dR r)) = true) : r ∈ rs := by
  obtain ⟨d, hd, he⟩ := List.any_eq_true.mp h
  obtain ⟨s, hs, rfl⟩ := List.mem_map.mp hd
  rw [← eqv_ints s r he]
  exact hs
theorem noL_R (r : List Int) : noL (dR r) = true := noL_ints r
theorem noL_Rs (rs : List (List Int)) : noLs (rs.map dR) = true := noLs_all fun d h => by
  obtain ⟨p, _, rfl⟩ := List.mem_map.mp h
  exact noL_R p
section
variable {P : Program} {w : World} {K : PySem.W.Frag} {mg : Str → Option Value} {base : Heap}
def spUnlike (K : PySem.W.Frag) : Sp := fun vs H Q _ => ∃ (p : Addr) (xs : List V) (rs : List (List Int)) (n : Nat), vs = [.ref p] ∧ SqL K H p xs ∧ DpAll K H xs (rs.map dR) ∧ (∀ r ∈ rs, Cls n r) ∧ n ≤ 60 ∧ rs.length ≤ 10000 ∧
  ∀ (q : Addr) (ys : List V) (ss : List (List Int)) (H' : Hp), Evl.Ex H H' → H q = none → H' q = some (.lst ys) → DpAll K H' ys (ss.map dR) → ss.Sublist rs → (ss.Nodup ∧ ∀ r ∈ rs, r ∈ ss) → Q (.ref q) H'
theorem ok_unlike {f : Addr} {fd : FuncData} (F : Fun K "_law_unlike" "_law_unlike" s_law_unlike f fd) (T : Bl mg) : FnOk P w K mg base CX0 1 f fd ["rows"] (spUnlike K) := by
  refine F.ok sc_law_unlike (fun vs H Q E h => ?_) (fun cdv A outer s H vs Q E hr h => ?_)
  · obtain ⟨p, xs, rs, n, rfl, _⟩ := h
    rfl
  · obtain ⟨p, xs, rs, n, rfl, hp, ha, hrow, hn, hz, q⟩ := h
    have lx : xs.length = rs.length := by rw [dpAll_len ha, List.length_map]
    refine ⟨_, (pss_cons (ps_set (i := 1) sc_law_unlike.nd rfl (Or.inl rfl) (pe_lst pa_nil))
 (pss_cons (ps_for PassesOwn.never rfl (ik_listI (K := K) rfl (pv 0)) (pg_name (i := 2) sc_law_unlike.nd rfl (Or.inl rfl)) (pss_one (ps_if (pt_cmpR (op_notInD (hu65 hr)) (pv 2) (pv 1) (by rfl)) (pss_one (ps_expr (pe_bm PySem.F.plainAttrs_list PySem.F.slot_list_append PySem.F.type_list_append mt_append (pv 1) (pa_cons (pv 2) pa_nil)))) pss_nil)))
 (pss_one (ps_ret (pv 1))))), ?_⟩
    refine rd_start (σ' := [some (.ref p), none, none]) rfl ?_
    walk_at "rds"
    refine ⟨Nat.zero_le _, fun b hb => ?_⟩
    have e1 := Evl.Ex.new (o := .lst []) hb
    walk_at "rds"
    refine rd_refL (Evl.ex_l e1 hp) ?_
    refine fr_list (xs := xs) (fun i σ' H' => ∃ (y : Option V) (ys : List V) (ss : List (List Int)), σ' = [some (.ref p), some (.ref b), y] ∧ Evl.Ex H H' ∧ H' b = some (.lst ys) ∧ DpAll K H ys (ss.map dR) ∧ ss.Sublist (rs.take i) ∧ ss.Nodup ∧ ∀ r ∈ rs.take i, r ∈ ss)
      ⟨_, [], [], rfl, e1, upd_same, .nil, List.nil_sublist _, List.nodup_nil, nofun⟩ (fun i σ' H' _ ⟨_, _, _, _, e, _⟩ => Evl.ex_l e hp) (fun i x σ' H' hi hP => ?_) fun σ' H' hP => ?_
    · obtain ⟨y, ys, ss, rfl, e, hy, hd, hs, hnd, hall⟩ := hP
      obtain ⟨d0, hd0, hx⟩ := dpAll_get ha hi
      rw [List.getElem?_map] at hd0
      obtain ⟨r, hr', rfl⟩ := Option.map_eq_some_iff.mp hd0
      have hrr := hrow r (List.mem_of_getElem? hr')
      have hss : ∀ r ∈ ss, Cls n r := fun s h => hrow s (List.mem_of_mem_take (hs.subset h))
      have hsl : ss.length ≤ 10000 := Nat.le_trans (hs.trans (List.take_sublist _ _)).length_le hz
      have hyl : ys.length = ss.length := by rw [dpAll_len hd, List.length_map]
      refine rd_start (σ' := [some (.ref p), some (.ref b), some x]) rfl ?_
      walk_at "rds"
      refine ⟨dR r, ss.map dR, dp_ex e _ _ hx, .lst (SqL.of hy) (dpAll_ex e _ _ hd), (nice_cls hrr hn).shaped (by decide), (Nice.lst (nice_clss hn hss)).shaped (by decide), ?_⟩
      walk_at "rds"
      have stay : ss.Sublist (rs.take (i + 1)) := by
        rw [List.take_add_one]
        exact hs.trans (List.sublist_append_left _ _)
      refine rd_iteb (fun c => ?_) (fun c => ?_)
      · walk_at "rds"
        refine rd_tyL hy ?_
        walk_at "rds"
        refine rd_append hy (by omega) ?_
        walk_at "rds"
        refine ⟨_, ys ++ [x], ss ++ [r], rfl, Evl.Ex.mut e hb, upd_same, ?_, ?_, ?_, fun s hs' => ?_⟩
        · rw [List.map_append]
          exact dpAll_app hd (.cons hx .nil)
        · rw [List.take_add_one, hr']
          exact hs.append (List.Sublist.refl _)
        · have hno := any_clss (rs := ss) hn hrr (by simpa using c)
          exact List.nodup_append.mpr ⟨hnd, List.nodup_cons.mpr ⟨nofun, List.nodup_nil⟩, fun a ha b hb e => hno (by rw [List.mem_singleton.mp hb] at e; exact e ▸ ha)⟩
        · rw [List.take_add_one, hr'] at hs'
          rcases List.mem_append.mp hs' with h | h
          · exact List.mem_append_left _ (hall s h)
          · exact List.mem_append_right _ h
      · walk_at "rds"
        refine ⟨_, ys, ss, rfl, e, hy, hd, stay, hnd, fun s hs' => ?_⟩
        rw [List.take_add_one, hr'] at hs'
        rcases List.mem_append.mp hs' with h | h
        · exact hall s h
        · have h : s ∈ [r] := h
          rw [List.mem_singleton.mp h]
          exact any_cls (by simpa using c)
    · obtain ⟨y, ys, ss, rfl, e, hy, hd, hs, hnd, hall⟩ := hP
      walk_at "rds"
      exact q b ys ss _ e hb hy (dpAll_ex e _ _ hd) (hs.trans (List.take_sublist _ _)) ⟨hnd, fun s h => hall s (by rw [lx, List.take_of_length_le (Nat.le_refl _)]; exact h)⟩
end
end KA
set_option Elab.async false
set_option linter.all false
set_option maxRecDepth 100000
set_option maxHeartbeats 400000
set_option pp.maxSteps 300
namespace KA
open PySem PySem.Spec PyProof.Rows L2 Ea
abbrev sowner_of : Stmt := topS 4
theorem scowner_of : FnScope ["sentence", "letter"] ["sentence", "letter"] (defScope sowner_of) :=
  ⟨rfl, rfl, rfl, by decide +kernel, rfl, by decide +kernel, by decide +kernel⟩
abbrev sletters_of : Stmt := topS 5
theorem scletters_of : FnScope ["sentence", "owner", "place", "sign"] ["sentence", "owner"] (defScope sletters_of) :=
  ⟨rfl, rfl, rfl, by decide +kernel, rfl, by decide +kernel, by decide +kernel⟩
abbrev shead_of : Stmt := topS 7
theorem schead_of : FnScope ["clause"] ["clause"] (defScope shead_of) :=
  ⟨rfl, rfl, rfl, by decide +kernel, rfl, by decide +kernel, by decide +kernel⟩
abbrev scheck_horn : Stmt := topS 9
theorem sccheck_horn : FnScope ["sentence"] ["sentence"] (defScope scheck_horn) :=
  ⟨rfl, rfl, rfl, by decide +kernel, rfl, by decide +kernel, by decide +kernel⟩
abbrev sis_horn : Stmt := topS 8
theorem scis_horn : FnScope ["sentence", "clause", "literal"] ["sentence"] (defScope sis_horn) :=
  ⟨rfl, rfl, rfl, by decide +kernel, rfl, by decide +kernel, by decide +kernel⟩
abbrev sneeded_letters : Stmt := topS 10
theorem scneeded_letters : FnScope ["sentence", "clause", "literal"] ["sentence", "clause"] (defScope sneeded_letters) :=
  ⟨rfl, rfl, rfl, by decide +kernel, rfl, by decide +kernel, by decide +kernel⟩
local macro_rules | `(tactic| walk_at "rd") => `(tactic| first
  | (with_reducible refine rd_seq ?_) | (with_reducible refine rd_asg ?_) | (with_reducible refine rd_if ?_) | (with_reducible refine rd_ret ?_) | (with_reducible refine rd_next ?_)
  | (with_reducible refine rd_drop ?_) | ((with_reducible refine rd_name (σ' := ?ss) ?hs ?_); (case hs => (dsimp only [List.set]; exact rfl)))
  | ((with_reducible refine rd_var (v := ?vv) ?hv ?_); (case hv => exact rfl)) | (with_reducible refine rd_c ?_) | (with_reducible refine rd_op ?_) | (with_reducible refine rd_un ?_)
  | (with_reducible refine rd_I0 ?_) | (with_reducible refine rd_U ?_) | (with_reducible refine rd_test ?_) | (with_reducible refine rd_B ?_) | (with_reducible refine rd_k ?_)
  | (with_reducible refine rd_not ?_) | (with_reducible refine rd_and ?_) | (with_reducible refine rd_or ?_) | (with_reducible refine rd_ifE ?_)
  | (with_reducible refine rd_par ?_) | ((with_reducible refine rd_par2 (σ' := ?ss) ?hs ?_); (case hs => (dsimp only [List.set]; exact rfl)))
  | (with_reducible refine rd_gsub ?_) | (with_reducible refine rd_andV ?_) | (with_reducible refine rd_orV ?_) | (with_reducible refine rd_notV ?_)
  | (with_reducible refine rd_lc ?_) | (with_reducible refine rd_iTup ?_) | (with_reducible refine rd_iList ?_) | (with_reducible refine rd_iRng1 ?_) | (with_reducible refine rd_iRng2 ?_) | (with_reducible refine rd_iEnumT ?_) | (with_reducible refine rd_iEnum ?_) | (with_reducible refine rd_iZipM ?_) | (with_reducible refine rd_iEnumS ?_) | (with_reducible refine rd_iKeys ?_) | (with_reducible refine rd_din ?_) | (with_reducible refine rd_dnotin ?_)
  | (with_reducible refine rd_yes ?_) | (with_reducible refine rd_true ?_) | (with_reducible refine rd_false ?_) | (with_reducible refine rd_m1 ?_) | (with_reducible refine rd_isS ?_)
  | ((with_reducible refine rd_eq ?hs ?_); (case hs => exact rfl)) | ((with_reducible refine rd_ne ?hs ?_); (case hs => exact rfl))
  | (with_reducible refine rd_listRg ?_) | (with_reducible refine rd_rg2 ?_) | (with_reducible refine rd_rgk ?_)
  | (with_reducible refine rd_dnew ?_) | (with_reducible refine rd_ddel ?_) | (with_reducible refine rd_kw ?_) | (with_reducible refine rd_callS ?_) | (with_reducible refine rd_dc ?_) | (with_reducible refine rd_for ?_) | (with_reducible refine rd_tru ?_) | (with_reducible refine rd_truI ?_)
  | (with_reducible refine rd_nil ?_) | (with_reducible refine rd_cons ?_) | (with_reducible refine rd_call ?_) | (with_reducible refine rd_cb ?_)
  | (with_reducible refine rd_tup ?_) | (with_reducible refine rd_lst ?_) | (with_reducible refine rd_dget ?_) | (with_reducible refine rd_dput ?_) | (with_reducible refine rd_dget2 ?_) | (with_reducible refine rd_sl ?_)
  | (with_reducible refine rd_nopart ?_) | (with_reducible refine rd_part ?_) | (with_reducible refine rd_parti ?_) | (with_reducible refine rd_bm ?_) | (with_reducible refine rd_bm0 ?_)
  | (with_reducible refine rd_int ?_) | (with_reducible refine rd_intb ?_) | (with_reducible refine rd_abs ?_) | (with_reducible refine rd_min2 ?_) | (with_reducible refine rd_max2 ?_))
local macro_rules | `(tactic| walk_at "rds") => `(tactic| repeat (walk_at "rd"))
local macro_rules | `(tactic| walk_at "rq") => `(tactic| first
  | (with_reducible refine rd_seq ?_) | (with_reducible refine rd_asg ?_) | (with_reducible refine rd_ret ?_) | (with_reducible refine rd_next ?_)
  | (with_reducible refine rd_drop ?_) | ((with_reducible refine rd_name (σ' := ?ss) ?hs ?_); (case hs => (dsimp only [List.set]; exact rfl)))
  | ((with_reducible refine rd_var (v := ?vv) ?hv ?_); (case hv => exact rfl)) | (with_reducible refine rd_c ?_) | (with_reducible refine rd_op ?_) | (with_reducible refine rd_un ?_)
  | (with_reducible refine rd_I0 ?_) | (with_reducible refine rd_U ?_) | (with_reducible refine rd_test ?_) | (with_reducible refine rd_B ?_) | (with_reducible refine rd_k ?_)
  | (with_reducible refine rd_not ?_) | (with_reducible refine rd_and ?_) | (with_reducible refine rd_or ?_) | (with_reducible refine rd_ifE ?_)
  | (with_reducible refine rd_par ?_) | ((with_reducible refine rd_par2 (σ' := ?ss) ?hs ?_); (case hs => (dsimp only [List.set]; exact rfl)))
  | (with_reducible refine rd_gsub ?_) | (with_reducible refine rd_andV ?_) | (with_reducible refine rd_orV ?_) | (with_reducible refine rd_notV ?_)
  | (with_reducible refine rd_lc ?_) | (with_reducible refine rd_iTup ?_) | (with_reducible refine rd_iList ?_) | (with_reducible refine rd_iRng1 ?_) | (with_reducible refine rd_iRng2 ?_) | (with_reducible refine rd_iEnumT ?_) | (with_reducible refine rd_iEnum ?_) | (with_reducible refine rd_iZipM ?_) | (with_reducible refine rd_iEnumS ?_) | (with_reducible refine rd_iKeys ?_) | (with_reducible refine rd_din ?_) | (with_reducible refine rd_dnotin ?_)
  | (with_reducible refine rd_yes ?_) | (with_reducible refine rd_true ?_) | (with_reducible refine rd_false ?_) | (with_reducible refine rd_m1 ?_) | (with_reducible refine rd_isS ?_)
  | ((with_reducible refine rd_eq ?hs ?_); (case hs => exact rfl)) | ((with_reducible refine rd_ne ?hs ?_); (case hs => exact rfl))
  | (with_reducible refine rd_listRg ?_) | (with_reducible refine rd_rg2 ?_) | (with_reducible refine rd_rgk ?_)
  | (with_reducible refine rd_dnew ?_) | (with_reducible refine rd_ddel ?_) | (with_reducible refine rd_kw ?_) | (with_reducible refine rd_callS ?_) | (with_reducible refine rd_dc ?_) | (with_reducible refine rd_for ?_) | (with_reducible refine rd_tru ?_) | (with_reducible refine rd_truI ?_)
  | (with_reducible refine rd_nil ?_) | (with_reducible refine rd_cons ?_) | (with_reducible refine rd_call ?_) | (with_reducible refine rd_cb ?_)
  | (with_reducible refine rd_tup ?_) | (with_reducible refine rd_lst ?_) | (with_reducible refine rd_dget ?_) | (with_reducible refine rd_dput ?_) | (with_reducible refine rd_dget2 ?_) | (with_reducible refine rd_sl ?_)
  | (with_reducible refine rd_nopart ?_) | (with_reducible refine rd_part ?_) | (with_reducible refine rd_parti ?_) | (with_reducible refine rd_bm ?_) | (with_reducible refine rd_bm0 ?_)
  | (with_reducible refine rd_int ?_) | (with_reducible refine rd_intb ?_) | (with_reducible refine rd_abs ?_) | (with_reducible refine rd_min2 ?_) | (with_reducible refine rd_max2 ?_))
local macro_rules | `(tactic| walk_at "rqs") => `(tactic| repeat (walk_at "rq"))
local macro_rules | `(tactic| walk_at "rv") => `(tactic| first
  | (with_reducible refine rd_seq ?_) | (with_reducible refine rd_asg ?_) | (with_reducible refine rd_ret ?_) | (with_reducible refine rd_next ?_)
  | (with_reducible refine rd_drop ?_) | ((with_reducible refine rd_name (σ' := ?ss) ?hs ?_); (case hs => (dsimp only [List.set]; exact rfl)))
  | ((with_reducible refine rd_var (v := ?vv) ?hv ?_); (case hv => exact rfl)) | (with_reducible refine rd_c ?_) | (with_reducible refine rd_op ?_) | (with_reducible refine rd_un ?_)
  | (with_reducible refine rd_I0 ?_) | (with_reducible refine rd_U ?_) | (with_reducible refine rd_test ?_) | (with_reducible refine rd_B ?_) | (with_reducible refine rd_k ?_)
  | (with_reducible refine rd_not ?_) | (with_reducible refine rd_and ?_) | (with_reducible refine rd_or ?_)
  | (with_reducible refine rd_par ?_) | ((with_reducible refine rd_par2 (σ' := ?ss) ?hs ?_); (case hs => (dsimp only [List.set]; exact rfl)))
  | (with_reducible refine rd_gsub ?_) | (with_reducible refine rd_andV ?_) | (with_reducible refine rd_orV ?_) | (with_reducible refine rd_notV ?_)
  | (with_reducible refine rd_lc ?_) | (with_reducible refine rd_iTup ?_) | (with_reducible refine rd_iList ?_) | (with_reducible refine rd_iRng1 ?_) | (with_reducible refine rd_iRng2 ?_) | (with_reducible refine rd_iEnumT ?_) | (with_reducible refine rd_iEnum ?_) | (with_reducible refine rd_iZipM ?_) | (with_reducible refine rd_iEnumS ?_) | (with_reducible refine rd_iKeys ?_) | (with_reducible refine rd_din ?_) | (with_reducible refine rd_dnotin ?_)
  | (with_reducible refine rd_yes ?_) | (with_reducible refine rd_true ?_) | (with_reducible refine rd_false ?_) | (with_reducible refine rd_m1 ?_) | (with_reducible refine rd_isS ?_)
  | ((with_reducible refine rd_eq ?hs ?_); (case hs => exact rfl)) | ((with_reducible refine rd_ne ?hs ?_); (case hs => exact rfl))
  | (with_reducible refine rd_listRg ?_) | (with_reducible refine rd_rg2 ?_) | (with_reducible refine rd_rgk ?_)
  | (with_reducible refine rd_dnew ?_) | (with_reducible refine rd_ddel ?_) | (with_reducible refine rd_kw ?_) | (with_reducible refine rd_callS ?_) | (with_reducible refine rd_dc ?_) | (with_reducible refine rd_for ?_) | (with_reducible refine rd_tru ?_) | (with_reducible refine rd_truI ?_)
  | (with_reducible refine rd_nil ?_) | (with_reducible refine rd_cons ?_) | (with_reducible refine rd_call ?_) | (with_reducible refine rd_cb ?_)
  | (with_reducible refine rd_tup ?_) | (with_reducible refine rd_lst ?_) | (with_reducible refine rd_dget ?_) | (with_reducible refine rd_dput ?_) | (with_reducible refine rd_dget2 ?_) | (with_reducible refine rd_sl ?_)
  | (with_reducible refine rd_nopart ?_) | (with_reducible refine rd_part ?_) | (with_reducible refine rd_parti ?_) | (with_reducible refine rd_bm ?_) | (with_reducible refine rd_bm0 ?_)
  | (with_reducible refine rd_int ?_) | (with_reducible refine rd_intb ?_) | (with_reducible refine rd_abs ?_) | (with_reducible refine rd_min2 ?_) | (with_reducible refine rd_max2 ?_))
local macro_rules | `(tactic| walk_at "rvs") => `(tactic| repeat (walk_at "rv"))

/-- letters of one owner -/
def lettersI (z : Str) (h : Str) (n : Nat) : List Int := ((List.range n).filter fun i : Nat => heldBy z h ((i : Int) + 1)).map fun i : Nat => (i : Int) + 1
theorem lettersI_mem {z h : Str} {n : Nat} {x : Int} : x ∈ lettersI z h n ↔ (1 ≤ x ∧ x ≤ (n : Int)) ∧ heldBy z h x = true := by
  unfold lettersI
  rw [List.mem_map]
  constructor
  · rintro ⟨j, hj, rfl⟩
    obtain ⟨h1, h2⟩ := List.mem_filter.mp hj
    have := List.mem_range.mp h1
    exact ⟨⟨by omega, by omega⟩, h2⟩
  · rintro ⟨h1, h2⟩
    refine ⟨(x - 1).toNat, List.mem_filter.mpr ⟨List.mem_range.mpr (by omega), ?_⟩, by omega⟩
    have e : (((x - 1).toNat : Nat) : Int) + 1 = x := by omega
    rw [e]
    exact h2
theorem lettersI_length (z h : Str) (n : Nat) : (lettersI z h n).length ≤ n := by
  unfold lettersI
  rw [List.length_map]
  have := List.length_filter_le (fun i : Nat => heldBy z h ((i : Int) + 1)) (List.range n)
  rw [List.length_range] at this
  exact this
/-- the greatest, 0 if none is greater -/
def headF (r : List Int) : Int := r.foldr max 0
theorem headF_ge : ∀ (r : List Int), 0 ≤ headF r ∧ ∀ x ∈ r, x ≤ headF r
  | [] => ⟨Int.le_refl _, nofun⟩
  | y :: t => by
    obtain ⟨h1, h2⟩ := headF_ge t
    have e : headF (y :: t) = max y (headF t) := rfl
    refine ⟨by rw [e]; omega, fun x hx => ?_⟩
    rw [e]
    rcases List.mem_cons.mp hx with rfl | hx
    · omega
    · have := h2 x hx
      omega
theorem headF_mem : ∀ (r : List Int), headF r = 0 ∨ headF r ∈ r
  | [] => .inl rfl
  | y :: t => by
    have e : headF (y :: t) = max y (headF t) := rfl
    rw [e]
    by_cases c : y ≤ headF t
    · rw [Int.max_eq_right c]
      exact (headF_mem t).imp id fun h => List.mem_cons_of_mem _ h
    · rw [Int.max_eq_left (by omega)]
      exact .inr List.mem_cons_self
theorem headF_eq {r : List Int} {m : Int} (h1 : m = 0 ∨ m ∈ r) (h2 : 0 ≤ m) (h3 : ∀ x ∈ r, x ≤ m) : m = headF r := by
  obtain ⟨g1, g2⟩ := headF_ge r
  rcases headF_mem r with g3 | g3
  · rcases h1 with h1 | h1
    · rw [h1, g3]
    · have := g2 m h1
      omega
  · have := h3 _ g3
    rcases h1 with h1 | h1
    · omega
    · have := g2 m h1
      omega
def posI (r : List Int) : List Int := r.filter fun x => decide (0 < x)
def Horn (r : List Int) : Prop := (posI r).length ≤ 1
/-- letters that a row needs -/
def needI (z : Str) (r : List Int) : List Int := (r.filter fun x => decide (x < 0) && heldBy z "s" x).map fun x => -x
theorem needI_mem {z : Str} {r : List Int} {y : Int} : y ∈ needI z r ↔ -y ∈ r ∧ 0 < y ∧ heldBy z "s" y = true := by
  unfold needI
  have hh : heldBy z "s" (-y) = heldBy z "s" y := by
    unfold heldBy sgn
    rw [Int.natAbs_neg]
  rw [List.mem_map]
  constructor
  · rintro ⟨x, hx, rfl⟩
    obtain ⟨h1, h2⟩ := List.mem_filter.mp hx
    rw [Bool.and_eq_true, decide_eq_true_eq] at h2
    rw [Int.neg_neg] at hh ⊢
    exact ⟨h1, by omega, by rw [← hh]; exact h2.2⟩
  · rintro ⟨h1, h2, h3⟩
    refine ⟨-y, List.mem_filter.mpr ⟨h1, ?_⟩, Int.neg_neg y⟩
    rw [Bool.and_eq_true, decide_eq_true_eq, hh]
    exact ⟨by omega, h3⟩
theorem needI_length (z : Str) (r : List Int) : (needI z r).length ≤ r.length := by
  unfold needI
  rw [List.length_map]
  exact List.length_filter_le _ _
/-- a sentence of such rows -/
def SentC (K : PySem.W.Frag) (H : Hp) (n : Nat) (a c : Addr) (z : Str) (rs : List (List Int)) : Prop :=
  ∃ xs : List V, SqT K H a [.str z, .ref c] ∧ SqT K H c xs ∧ DpAll K H xs (rs.map dR) ∧ OwnS n z ∧ n ≤ 60 ∧ (∀ r ∈ rs, Cls n r) ∧ rs.length ≤ 1000
theorem SentC.ex {K : PySem.W.Frag} {H H' : Hp} {n : Nat} {a c : Addr} {z : Str} {rs : List (List Int)} (e : Evl.Ex H H') (h : SentC K H n a c z rs) : SentC K H' n a c z rs := by
  obtain ⟨xs, h1, h2, h3, h4⟩ := h
  exact ⟨xs, Evl.ex_t e h1, Evl.ex_t e h2, dpAll_ex e _ _ h3, h4⟩
theorem SentC.mono {K : PySem.W.Frag} {H H' : Hp} {n : Nat} {a c : Addr} {z : Str} {rs : List (List Int)} (e : ∀ a xs, SqT K H a xs → SqT K H' a xs) (h : SentC K H n a c z rs) : SentC K H' n a c z rs := by
  obtain ⟨xs, h1, h2, h3, h4⟩ := h
  exact ⟨xs, e _ _ h1, e _ _ h2, dps_mono e _ _ (noL_Rs rs) h3, h4⟩
section
variable {P : Program} {w : World} {K : PySem.W.Frag} {mg : Str → Option Value} {base : Heap}
def spOwner (K : PySem.W.Frag) : Sp := fun vs H Q _ => ∃ (a c : Addr) (z : Str) (n : Nat) (x : Int), vs = [.ref a, .int x] ∧ SqT K H a [.str z, .ref c] ∧ OwnS n z ∧ n ≤ 60 ∧ 1 ≤ x ∧ x ≤ n ∧ Q (.str ⟨#[sgn z x]⟩) H
theorem ok_owner {f : Addr} {fd : FuncData} (F : Fun K "owner_of" "owner_of" sowner_of f fd) (T : Bl mg) : FnOk P w K mg base CX0 1 f fd ["sentence", "letter"] (spOwner K) := by
  refine F.ok scowner_of (fun vs H Q E h => ?_) (fun cdv A outer s H vs Q E hr h => ?_)
  · obtain ⟨a, c, z, n, x, rfl, _⟩ := h
    rfl
  · obtain ⟨a, c, z, n, x, rfl, ha, hz, hn, x0, x1, q⟩ := h
    refine ⟨_, (pss_one (ps_ret (pe_ix ix_str (pe_ix (ik_tup (K := K) rfl) (pv 0) pe_int (fun _ _ => rfl)) (pe_op op_sub (pv 1) pe_int) (fun _ _ => rfl)))), ?_⟩
    refine rd_start (σ' := [some (.ref a), some (.int x)]) rfl ?_
    walk_at "rds"
    refine rd_ixT (x := .str z) ha rfl ?_
    walk_at "rds"
    exact rd_ixS (by rw [hz.1, sizeLine_eq]; omega) (at_up hz x0 x1) q
def spLetters (K : PySem.W.Frag) : Sp := fun vs H Q _ => ∃ (a c : Addr) (z h : Str) (n : Nat), vs = [.ref a, .str h] ∧ SqT K H a [.str z, .ref c] ∧ OwnS n z ∧ n ≤ 60 ∧
  ∀ (q : Addr) (H' : Hp), Evl.Ex H H' → H q = none → H' q = some (.lst ((lettersI z h n).map V.int)) → Q (.ref q) H'
theorem ok_letters {f : Addr} {fd : FuncData} (F : Fun K "letters_of" "letters_of" sletters_of f fd) (T : Bl mg) : FnOk P w K mg base CX0 1 f fd ["sentence", "owner"] (spLetters K) := by
  refine F.ok scletters_of (fun vs H Q E h => ?_) (fun cdv A outer s H vs Q E hr h => ?_)
  · obtain ⟨a, c, z, h, n, rfl, _⟩ := h
    rfl
  · obtain ⟨a, c, z, h, n, rfl, ha, hz, hn, q⟩ := h
    refine ⟨_, (pss_one (ps_ret (pe_lc (own := [("place", 2), ("sign", 3)]) (g := gTup K 2 (gCons (gName 2) (gCons (gName 3) gNil))) rfl scletters_of.nd (pi_enumS (by rfl) T.enumerate (pa_cons (pe_ix (ik_tup (K := K) rfl) (pv 0) pe_int (fun _ _ => rfl)) pa_nil)) (blkOk_by (own := [("place", 2), ("sign", 3)]) (N := ["sentence", "owner", "place", "sign"]) (sc := defScope sletters_of) (by decide +kernel)) (fun _ _ _ _ _ => (pgk_tup (K := K) rfl rfl (pgs_cons (pg_name (i := 2) scletters_of.nd rfl (Or.inl rfl)) (pgs_cons (pg_name (i := 3) scletters_of.nd rfl (Or.inl rfl)) pgs_nil)))) (fun _ _ _ _ _ => (pts_one (pt_cmpR op_eq (pv 3) (pv 1) (nomark _)))) (fun _ _ _ _ _ => (pe_op op_add (pv 2) pe_int))))), ?_⟩
    refine rd_start (σ' := [some (.ref a), some (.str h), none, none]) rfl ?_
    walk_at "rds"
    refine rd_ixT (x := .str z) ha rfl ?_
    have zs : z.cps.size = n := hz.1
    refine ⟨z, rfl, ?_⟩
    refine lc_enumS (z := z) rfl (by omega) (σx := fun x y => [some (.ref a), some (.str h), some x, some y]) (fun _ _ => rfl) (fun _ _ => rfl) (fun i : Nat => heldBy z h ((i : Int) + 1)) (fun i : Nat => .int ((i : Int) + 1)) (fun i hi H' N S e kN kS => ?_) fun D H2 e2 eD hD => ?_
    · walk_at "rds"
      have es : sgn z ((i : Int) + 1) = z.cps.toList.getD i 0 := by
        unfold sgn
        have : ((i : Int) + 1).natAbs - 1 = i := by omega
        rw [this]
      have eh : heldBy z h ((i : Int) + 1) = decide (V.str ⟨#[z.cps.toList.getD i 0]⟩ = V.str h) := by
        unfold heldBy
        rw [es]
      refine rd_iteb (b := decide (V.str ⟨#[z.cps.toList.getD i 0]⟩ = V.str h)) (fun c => ?_) (fun c => ?_)
      · walk_at "rds"
        exact kN (eh.trans c) _ (Evl.Ex.refl _)
      · exact kS (eh.trans c) _ (Evl.Ex.refl _)
    rw [zs] at hD
    refine q D H2 e2 eD ?_
    rw [hD]
    unfold lettersI
    rw [List.map_map] <;> rfl
def spHead (K : PySem.W.Frag) : Sp := fun vs H Q _ => ∃ (a : Addr) (r : List Int), vs = [.ref a] ∧ SqT K H a (r.map V.int) ∧ r.length ≤ 1000 ∧ ∀ H', Evl.Ex H H' → Q (.int (headF r)) H'
theorem ok_head {f : Addr} {fd : FuncData} (F : Fun K "head_of" "head_of" shead_of f fd) (T : Bl mg) : FnOk P w K mg base CX0 1 f fd ["clause"] (spHead K) := by
  refine F.ok schead_of (fun vs H Q E h => ?_) (fun cdv A outer s H vs Q E hr h => ?_)
  · obtain ⟨a, r, rfl, _⟩ := h
    rfl
  · obtain ⟨a, r, rfl, ha, hl, q⟩ := h
    refine ⟨_, (pss_one (ps_ret (pe_callB (c_max (K := K) rfl rfl) (by rfl) T.max (by decide +kernel) (pa_cons (pe_op op_cat (pe_lst (pa_cons pe_int pa_nil)) (pe_callTy (c_list (K := K) rfl) (by rfl) T.list (by decide +kernel) (pa_cons (pv 0) pa_nil))) pa_nil)))), ?_⟩
    refine rd_start (σ' := [some (.ref a)]) rfl ?_
    walk_at "rds"
    refine ⟨by decide, fun p hp => ?_⟩
    have e1 := Evl.Ex.new (o := .lst [V.int 0]) hp
    walk_at "rds"
    refine rd_listT (Evl.ex_t e1 ha) fun b hb => ?_
    have e2 := Evl.Ex.new (o := .lst (r.map V.int)) hb
    refine rd_catL (e2 _ _ upd_same) upd_same (by rw [List.length_map, List.length_singleton, sizeLine_eq]; omega) fun c hc => ?_
    have e3 := Evl.Ex.new (o := .lst ([V.int 0] ++ r.map V.int)) hc
    refine rd_maxL (m := 0 :: r) (SqL.of upd_same) (Nat.succ_pos _) fun x hx hm => ?_
    have ex : x = headF r := headF_eq (by rcases List.mem_cons.mp hx with h | h; exact .inl h; exact .inr h) (hm 0 List.mem_cons_self) fun y hy => hm y (List.mem_cons_of_mem _ hy)
    rw [ex]
    exact q _ ((e1.trans e2).trans e3)
def spNeeded (K : PySem.W.Frag) : Sp := fun vs H Q _ => ∃ (a c b : Addr) (z : Str) (n : Nat) (r : List Int), vs = [.ref a, .ref b] ∧ SqT K H a [.str z, .ref c] ∧ OwnS n z ∧ n ≤ 60 ∧ Cls n r ∧ SqT K H b (r.map V.int) ∧
  ∀ (q : Addr) (H' : Hp), Evl.Ex H H' → H q = none → H' q = some (.lst ((needI z r).map V.int)) → Q (.ref q) H'
theorem ok_needed {f fO : Addr} {fd fdO : FuncData} (F : Fun K "needed_letters" "needed_letters" sneeded_letters f fd) (T : Bl mg)
    (Gowner_of : FnOk P w K mg base CX0 1 fO fdO ["sentence", "letter"] (spOwner K)) (Cowner_of : Callee K mg "owner_of" fO fdO ["sentence", "letter"]) : FnOk P w K mg base CX0 2 f fd ["sentence", "clause"] (spNeeded K) := by
  refine F.ok scneeded_letters (fun vs H Q E h => ?_) (fun cdv A outer s H vs Q E hr h => ?_)
  · obtain ⟨a, c, b, z, n, r, rfl, _⟩ := h
    rfl
  · obtain ⟨a, c, b, z, n, r, rfl, ha, hz, hn, hr1, hb, q⟩ := h
    refine ⟨_, (pss_one (ps_ret (pe_lc (own := [("literal", 2)]) (g := gName 2) rfl scneeded_letters.nd (ik_tupI (K := K) rfl (pv 1)) (blkOk_by (own := [("literal", 2)]) (N := ["sentence", "clause", "literal"]) (sc := defScope sneeded_letters) (by decide +kernel)) (fun _ _ _ _ _ => (pg_name (i := 2) scneeded_letters.nd rfl (Or.inl rfl))) (fun _ _ _ _ _ => (pts_one (PW.pt (pw_and (pt_cmpR op_lt (pv 2) pe_int (nomark _)) (pw_and1 (pt_cmpR op_eq (pe_call Gowner_of (hr.mono (by decide)) (by rfl) Cowner_of.m Cowner_of.k Cowner_of.b .nil pass0 (pa_cons (pv 0) (pa_cons (pe_un un_neg (pv 2)) pa_nil))) pe_str (nomark _))))))) (fun _ _ _ _ _ => (pe_un un_neg (pv 2)))))), ?_⟩
    refine rd_start (σ' := [some (.ref a), some (.ref b), none]) rfl ?_
    walk_at "rds"
    refine rd_ref hb ?_
    refine lc_fmT (fun x => decide (x < 0) && heldBy z "s" x) (fun x => .int (-x)) (σx := fun x => [some (.ref a), some (.ref b), some x]) hb (by have := hr1.len; omega) (fun _ => rfl) (fun _ => rfl)
      (fun x hx H' N S e kN kS => ?_) fun D H2 e2 eD hD => ?_
    · have hx1 := hr1.lit x hx
      walk_at "rds"
      refine rd_ite (fun c => ?_) (fun c => ?_)
      · walk_at "rds"
        refine ⟨a, _, z, n, -x, rfl, Evl.ex_t e ha, hz, hn, by omega, by omega, ?_⟩
        have hs : sgn z (-x) = sgn z x := by
          unfold sgn
          rw [Int.natAbs_neg]
        rw [hs]
        walk_at "rds"
        refine rd_iteb (b := heldBy z "s" x) (fun c2 => ?_) (fun c2 => ?_)
        · walk_at "rds"
          exact kN (by show (decide (x < 0) && heldBy z "s" x) = true; rw [decide_eq_true c, c2]; rfl) _ (Evl.Ex.refl _)
        · exact kS (by show (decide (x < 0) && heldBy z "s" x) = false; rw [c2, Bool.and_false]) _ (Evl.Ex.refl _)
      · exact kS (by show (decide (x < 0) && heldBy z "s" x) = false; rw [decide_eq_false c]; rfl) _ (Evl.Ex.refl _)
    refine q D H2 e2 eD ?_
    rw [hD]
    unfold needI
    rw [List.map_map] <;> rfl
def spCheck (K : PySem.W.Frag) (C : Addr) : Sp := fun vs H Q E => ∃ (a c : Addr) (z : Str) (n : Nat) (rs : List (List Int)), vs = [.ref a] ∧ SentC K H n a c z rs ∧
  ((∀ r ∈ rs, Horn r) → ∀ H', Evl.Ex H H' → Q .non H') ∧ ((∃ r ∈ rs, ¬ Horn r) → ∀ H', Evl.Ex H H' → E (.ref C) none H')
def hornB (r : List Int) : Bool := decide ((r.filter fun x => decide (0 < x)).length ≤ 1)
theorem hornB_iff {r : List Int} : hornB r = true ↔ Horn r := decide_eq_true_iff
theorem lc_exT2 {σ : L2.St} {H : Hp} {Q : VK} {te : TE} {vs : List Nat} {j : Nat} {σx : V → L2.St} {a : Addr} {xs : List V} (Pv : Nat → List V → Prop)
    (hx : SqT K H a xs) (hz : xs.length ≤ 40000) (hσ : ∀ x, (wipe σ vs).set j (some x) = σx x) (hw : ∀ x, wipe (σx x) vs = wipe σ vs) (h0 : Pv 0 [])
    (hs : ∀ i x, xs[i]? = some x → ∀ (acc : List V) (H' : Hp) (N : VK), Evl.Ex H H' → Pv i acc → (∀ v H3, Evl.Ex H' H3 → Pv (i + 1) (acc ++ [v]) → N v H3) → te (σx x) H' N)
    (hd : ∀ D acc H', Evl.Ex H H' → H D = none → H' D = some (.lst acc) → Pv xs.length acc → Q (.ref D) H') : LcR (gName j) tYes te vs σ Q (Itt K a) H := fun D hn =>
  lc_tup (xs := xs) (fun i H' => i ≤ xs.length ∧ Evl.Ex H H' ∧ ∃ acc, H' D = some (.lst acc) ∧ acc.length = i ∧ Pv i acc) ⟨Nat.zero_le _, Evl.Ex.new hn, [], upd_same, rfl, h0⟩ (fun i H' _ ⟨_, ex, _⟩ => Evl.ex_t ex hx) (fun i x H' hi p => by
    obtain ⟨_, ex, acc, ea, hl, hp⟩ := p
    have hlt := (List.getElem?_eq_some_iff.mp hi).1
    rw [show gName j x (wipe σ vs) H' = fun N => N (σx x) H' from funext fun N => by rw [← hσ x] <;> rfl]
    refine ⟨hw _, ?_⟩
    refine rd_yes ?_
    rw [if_pos rfl]
    refine hs i x hi acc H' _ ex hp fun v H3 e3 hp3 => ⟨acc, e3 D _ ea, Evl.sz_lt (by omega), by omega, Evl.Ex.mut (ex.trans e3) hn, acc ++ [v], upd_same, by rw [List.length_append, hl] <;> rfl, hp3⟩) fun H' p => by
    obtain ⟨_, ex, acc, ea, _, hp⟩ := p
    exact hd D acc H' ex hn ea hp
def spIsHorn (K : PySem.W.Frag) : Sp := fun vs H Q _ => ∃ (a c : Addr) (z : Str) (n : Nat) (rs : List (List Int)), vs = [.ref a] ∧ SentC K H n a c z rs ∧ ∀ H', Evl.Ex H H' → Q (.bl (rs.all hornB)) H'
theorem ok_ishorn {f : Addr} {fd : FuncData} (F : Fun K "is_horn" "is_horn" sis_horn f fd) (T : Bl mg) : FnOk P w K mg base CX0 1 f fd ["sentence"] (spIsHorn K) := by
  refine F.ok scis_horn (fun vs H Q E h => ?_) (fun cdv A outer s H vs Q E hr h => ?_)
  · obtain ⟨a, c, z, n, rs, rfl, _⟩ := h
    rfl
  · obtain ⟨a, c, z, n, rs, rfl, ⟨xs, ha, hc, hd, hz, hn, hrs, hl⟩, q⟩ := h
    refine ⟨_, (pss_one (ps_ret (pe_callB (c_all (K := K) rfl rfl) (by rfl) T.all (by decide +kernel) (pa_cons (pe_lc (own := [("clause", 1)]) (g := gName 1) rfl scis_horn.nd (ik_tupI (K := K) rfl (pe_ix (ik_tup (K := K) rfl) (pv 0) pe_int (fun _ _ => rfl))) (blkOk_by (own := [("clause", 1)]) (N := ["sentence", "clause", "literal"]) (sc := defScope sis_horn) (by decide +kernel)) (fun _ _ _ _ _ => (pg_name (i := 1) scis_horn.nd rfl (Or.inl rfl))) (fun _ _ _ _ _ => pts_nil) (fun _ _ _ _ _ => (pe_cmpR op_le (pe_callB (c_len (K := K) rfl) (by rfl) T.len (by decide +kernel) (pa_cons (pe_lc (own := [("literal", 2)]) (g := gName 2) rfl scis_horn.nd (ik_tupI (K := K) rfl (pv 1)) (blkOk_by (own := [("literal", 2)]) (N := ["sentence", "clause", "literal"]) (sc := _) (by rfl)) (fun _ _ _ _ _ => (pg_name (i := 2) scis_horn.nd rfl (Or.inl rfl))) (fun _ _ _ _ _ => (pts_one (pt_cmpR op_gt (pv 2) pe_int (nomark _)))) (fun _ _ _ _ _ => (pv 2))) pa_nil)) pe_int (nomark _)))) pa_nil)))), ?_⟩
    refine rd_start (σ' := [some (.ref a), none, none]) rfl ?_
    have lx : xs.length = rs.length := by rw [dpAll_len hd, List.length_map]
    walk_at "rds"
    refine rd_ixT (x := .ref c) ha rfl ?_
    refine rd_ref hc ?_
    refine lc_exT2 (K := K) (fun i acc => acc = (rs.take i).map fun r => V.bl (hornB r)) (σx := fun x => [some (.ref a), some x, none]) hc (by omega) (fun _ => rfl) (fun _ => rfl) rfl (fun i x hi acc H' N e hP kN => ?_) fun D acc H1 e1 eD hacc hP => ?_
    · obtain ⟨d0, hd0, hx⟩ := dpAll_get hd hi
      rw [List.getElem?_map] at hd0
      obtain ⟨r, hr', rfl⟩ := Option.map_eq_some_iff.mp hd0
      have hrr := hrs r (List.mem_of_getElem? hr')
      obtain ⟨b, rfl, sb⟩ := dp_row hx
      walk_at "rds"
      refine rd_ref (Evl.ex_t e sb) ?_
      refine lc_fmT (fun x => decide (0 < x)) V.int (σx := fun x => [some (.ref a), some (.ref b), some x]) (Evl.ex_t e sb) (by have := hrr.len; omega) (fun _ => rfl) (fun _ => rfl)
        (fun x hx H' N S e kN kS => ?_) fun D H2 e2 eD hD => ?_
      · walk_at "rds"
        refine rd_ite (fun c => ?_) (fun c => ?_)
        · walk_at "rds"
          exact kN (decide_eq_true c) _ (Evl.Ex.refl _)
        · exact kS (decide_eq_false c) _ (Evl.Ex.refl _)
      walk_at "rds"
      refine rd_lenL (SqL.of hD) ?_
      rw [List.length_map]
      walk_at "rds"
      have eh : decide (((((r.filter fun x => decide (0 < x)).length : Nat) : Int)) ≤ 1) = hornB r := decide_eq_decide.mpr (by omega)
      rw [eh]
      refine kN _ _ e2 ?_
      rw [hP, List.take_add_one, hr', List.map_append] <;> rfl
    rw [lx, List.take_of_length_le (Nat.le_refl _)] at hP
    walk_at "rds"
    refine rd_all (bs := rs.map hornB) (SqL.of (by rw [hacc, hP, List.map_map] <;> rfl)) ?_
    rw [List.all_map]
    exact q _ e1
theorem ok_check {f C fI : Addr} {fd fdI : FuncData} (F : Fun K "check_horn" "check_horn" scheck_horn f fd) (T : Bl mg) (UUnfit : ExcF K mg "Unfit" C)
    (Gis_horn : FnOk P w K mg base CX0 1 fI fdI ["sentence"] (spIsHorn K)) (Cis_horn : Callee K mg "is_horn" fI fdI ["sentence"]) : FnOk P w K mg base (L2.CX P w) 2 f fd ["sentence"] (spCheck K C) := by
  refine F.okX sccheck_horn (fun vs H Q E h => ?_) (fun cdv A outer s H vs Q E hr h => ?_)
  · obtain ⟨a, c, z, n, rs, rfl, _⟩ := h
    rfl
  · obtain ⟨a, c, z, n, rs, rfl, hs, q1, q2⟩ := h
    refine ⟨_, (pss_one (ps_if (pt_not (pt_val (pe_call Gis_horn (hr.mono (by decide)) (by rfl) Cis_horn.m Cis_horn.k Cis_horn.b .nil pass0 (pa_cons (pv 0) pa_nil)))) (pss_one (ps_raise rfl (takes_of rfl rfl rfl rfl) (pmk_own0 PySem.F.excBase_ValueError UUnfit.x UUnfit.g UUnfit.k (raises_own UUnfit.b UUnfit.t) rfl))) pss_nil)), ?_⟩
    refine rd_start (σ' := [some (.ref a)]) rfl ?_
    walk_at "rds"
    refine ⟨a, c, z, n, rs, rfl, hs, fun H1 e1 => ?_⟩
    walk_at "rds"
    cases c1 : rs.all hornB with
    | false =>
      refine (if_pos rfl).mpr ?_
      obtain ⟨r, hr1, hr2⟩ := List.all_eq_false.mp c1
      exact q2 ⟨r, hr1, fun h => hr2 (hornB_iff.mpr h)⟩ _ e1
    | true =>
      refine (if_neg (by decide)).mpr ?_
      walk_at "rds"
      exact q1 (fun r hr1 => hornB_iff.mp (List.all_eq_true.mp c1 r hr1)) _ e1
end
end KA
set_option Elab.async false
set_option linter.all false
set_option maxRecDepth 100000
set_option maxHeartbeats 400000
set_option pp.maxSteps 300
namespace KA
open PySem PySem.Spec PyProof.Rows L2 Ea
abbrev sfurther_rules : Stmt := topS 11
theorem scfurther_rules : FnScope ["sentence", "letter", "rules", "place", "clause", "head"] ["sentence", "letter"] (defScope sfurther_rules) :=
  ⟨rfl, rfl, rfl, by decide +kernel, rfl, by decide +kernel, by decide +kernel⟩
local macro_rules | `(tactic| walk_at "rd") => `(tactic| first
  | (with_reducible refine rd_seq ?_) | (with_reducible refine rd_asg ?_) | (with_reducible refine rd_if ?_) | (with_reducible refine rd_ret ?_) | (with_reducible refine rd_next ?_)
  | (with_reducible refine rd_drop ?_) | ((with_reducible refine rd_name (σ' := ?ss) ?hs ?_); (case hs => (dsimp only [List.set]; exact rfl)))
  | ((with_reducible refine rd_var (v := ?vv) ?hv ?_); (case hv => exact rfl)) | (with_reducible refine rd_c ?_) | (with_reducible refine rd_op ?_) | (with_reducible refine rd_un ?_)
  | (with_reducible refine rd_I0 ?_) | (with_reducible refine rd_U ?_) | (with_reducible refine rd_test ?_) | (with_reducible refine rd_B ?_) | (with_reducible refine rd_k ?_)
  | (with_reducible refine rd_not ?_) | (with_reducible refine rd_and ?_) | (with_reducible refine rd_or ?_) | (with_reducible refine rd_ifE ?_)
  | (with_reducible refine rd_par ?_) | ((with_reducible refine rd_par2 (σ' := ?ss) ?hs ?_); (case hs => (dsimp only [List.set]; exact rfl)))
  | (with_reducible refine rd_gsub ?_) | (with_reducible refine rd_andV ?_) | (with_reducible refine rd_orV ?_) | (with_reducible refine rd_notV ?_)
  | (with_reducible refine rd_lc ?_) | (with_reducible refine rd_iTup ?_) | (with_reducible refine rd_iList ?_) | (with_reducible refine rd_iRng1 ?_) | (with_reducible refine rd_iRng2 ?_) | (with_reducible refine rd_iEnumT ?_) | (with_reducible refine rd_iEnum ?_) | (with_reducible refine rd_iZipM ?_) | (with_reducible refine rd_iEnumS ?_) | (with_reducible refine rd_iKeys ?_) | (with_reducible refine rd_din ?_) | (with_reducible refine rd_dnotin ?_)
  | (with_reducible refine rd_yes ?_) | (with_reducible refine rd_true ?_) | (with_reducible refine rd_false ?_) | (with_reducible refine rd_m1 ?_) | (with_reducible refine rd_isS ?_)
  | ((with_reducible refine rd_eq ?hs ?_); (case hs => exact rfl)) | ((with_reducible refine rd_ne ?hs ?_); (case hs => exact rfl))
  | (with_reducible refine rd_listRg ?_) | (with_reducible refine rd_rg2 ?_) | (with_reducible refine rd_rgk ?_)
  | (with_reducible refine rd_dnew ?_) | (with_reducible refine rd_ddel ?_) | (with_reducible refine rd_kw ?_) | (with_reducible refine rd_callS ?_) | (with_reducible refine rd_dc ?_) | (with_reducible refine rd_for ?_) | (with_reducible refine rd_tru ?_) | (with_reducible refine rd_truI ?_)
  | (with_reducible refine rd_nil ?_) | (with_reducible refine rd_cons ?_) | (with_reducible refine rd_call ?_) | (with_reducible refine rd_cb ?_)
  | (with_reducible refine rd_tup ?_) | (with_reducible refine rd_lst ?_) | (with_reducible refine rd_dget ?_) | (with_reducible refine rd_dput ?_) | (with_reducible refine rd_dget2 ?_) | (with_reducible refine rd_sl ?_)
  | (with_reducible refine rd_nopart ?_) | (with_reducible refine rd_part ?_) | (with_reducible refine rd_parti ?_) | (with_reducible refine rd_bm ?_) | (with_reducible refine rd_bm0 ?_)
  | (with_reducible refine rd_int ?_) | (with_reducible refine rd_intb ?_) | (with_reducible refine rd_abs ?_) | (with_reducible refine rd_min2 ?_) | (with_reducible refine rd_max2 ?_))
local macro_rules | `(tactic| walk_at "rds") => `(tactic| repeat (walk_at "rd"))
local macro_rules | `(tactic| walk_at "rq") => `(tactic| first
  | (with_reducible refine rd_seq ?_) | (with_reducible refine rd_asg ?_) | (with_reducible refine rd_ret ?_) | (with_reducible refine rd_next ?_)
  | (with_reducible refine rd_drop ?_) | ((with_reducible refine rd_name (σ' := ?ss) ?hs ?_); (case hs => (dsimp only [List.set]; exact rfl)))
  | ((with_reducible refine rd_var (v := ?vv) ?hv ?_); (case hv => exact rfl)) | (with_reducible refine rd_c ?_) | (with_reducible refine rd_op ?_) | (with_reducible refine rd_un ?_)
  | (with_reducible refine rd_I0 ?_) | (with_reducible refine rd_U ?_) | (with_reducible refine rd_test ?_) | (with_reducible refine rd_B ?_) | (with_reducible refine rd_k ?_)
  | (with_reducible refine rd_not ?_) | (with_reducible refine rd_and ?_) | (with_reducible refine rd_or ?_) | (with_reducible refine rd_ifE ?_)
  | (with_reducible refine rd_par ?_) | ((with_reducible refine rd_par2 (σ' := ?ss) ?hs ?_); (case hs => (dsimp only [List.set]; exact rfl)))
  | (with_reducible refine rd_gsub ?_) | (with_reducible refine rd_andV ?_) | (with_reducible refine rd_orV ?_) | (with_reducible refine rd_notV ?_)
  | (with_reducible refine rd_lc ?_) | (with_reducible refine rd_iTup ?_) | (with_reducible refine rd_iList ?_) | (with_reducible refine rd_iRng1 ?_) | (with_reducible refine rd_iRng2 ?_) | (with_reducible refine rd_iEnumT ?_) | (with_reducible refine rd_iEnum ?_) | (with_reducible refine rd_iZipM ?_) | (with_reducible refine rd_iEnumS ?_) | (with_reducible refine rd_iKeys ?_) | (with_reducible refine rd_din ?_) | (with_reducible refine rd_dnotin ?_)
  | (with_reducible refine rd_yes ?_) | (with_reducible refine rd_true ?_) | (with_reducible refine rd_false ?_) | (with_reducible refine rd_m1 ?_) | (with_reducible refine rd_isS ?_)
  | ((with_reducible refine rd_eq ?hs ?_); (case hs => exact rfl)) | ((with_reducible refine rd_ne ?hs ?_); (case hs => exact rfl))
  | (with_reducible refine rd_listRg ?_) | (with_reducible refine rd_rg2 ?_) | (with_reducible refine rd_rgk ?_)
  | (with_reducible refine rd_dnew ?_) | (with_reducible refine rd_ddel ?_) | (with_reducible refine rd_kw ?_) | (with_reducible refine rd_callS ?_) | (with_reducible refine rd_dc ?_) | (with_reducible refine rd_for ?_) | (with_reducible refine rd_tru ?_) | (with_reducible refine rd_truI ?_)
  | (with_reducible refine rd_nil ?_) | (with_reducible refine rd_cons ?_) | (with_reducible refine rd_call ?_) | (with_reducible refine rd_cb ?_)
  | (with_reducible refine rd_tup ?_) | (with_reducible refine rd_lst ?_) | (with_reducible refine rd_dget ?_) | (with_reducible refine rd_dput ?_) | (with_reducible refine rd_dget2 ?_) | (with_reducible refine rd_sl ?_)
  | (with_reducible refine rd_nopart ?_) | (with_reducible refine rd_part ?_) | (with_reducible refine rd_parti ?_) | (with_reducible refine rd_bm ?_) | (with_reducible refine rd_bm0 ?_)
  | (with_reducible refine rd_int ?_) | (with_reducible refine rd_intb ?_) | (with_reducible refine rd_abs ?_) | (with_reducible refine rd_min2 ?_) | (with_reducible refine rd_max2 ?_))
local macro_rules | `(tactic| walk_at "rqs") => `(tactic| repeat (walk_at "rq"))
local macro_rules | `(tactic| walk_at "rv") => `(tactic| first
  | (with_reducible refine rd_seq ?_) | (with_reducible refine rd_asg ?_) | (with_reducible refine rd_ret ?_) | (with_reducible refine rd_next ?_)
  | (with_reducible refine rd_drop ?_) | ((with_reducible refine rd_name (σ' := ?ss) ?hs ?_); (case hs => (dsimp only [List.set]; exact rfl)))
  | ((with_reducible refine rd_var (v := ?vv) ?hv ?_); (case hv => exact rfl)) | (with_reducible refine rd_c ?_) | (with_reducible refine rd_op ?_) | (with_reducible refine rd_un ?_)
  | (with_reducible refine rd_I0 ?_) | (with_reducible refine rd_U ?_) | (with_reducible refine rd_test ?_) | (with_reducible refine rd_B ?_) | (with_reducible refine rd_k ?_)
  | (with_reducible refine rd_not ?_) | (with_reducible refine rd_and ?_) | (with_reducible refine rd_or ?_)
  | (with_reducible refine rd_par ?_) | ((with_reducible refine rd_par2 (σ' := ?ss) ?hs ?_); (case hs => (dsimp only [List.set]; exact rfl)))
  | (with_reducible refine rd_gsub ?_) | (with_reducible refine rd_andV ?_) | (with_reducible refine rd_orV ?_) | (with_reducible refine rd_notV ?_)
  | (with_reducible refine rd_lc ?_) | (with_reducible refine rd_iTup ?_) | (with_reducible refine rd_iList ?_) | (with_reducible refine rd_iRng1 ?_) | (with_reducible refine rd_iRng2 ?_) | (with_reducible refine rd_iEnumT ?_) | (with_reducible refine rd_iEnum ?_) | (with_reducible refine rd_iZipM ?_) | (with_reducible refine rd_iEnumS ?_) | (with_reducible refine rd_iKeys ?_) | (with_reducible refine rd_din ?_) | (with_reducible refine rd_dnotin ?_)
  | (with_reducible refine rd_yes ?_) | (with_reducible refine rd_true ?_) | (with_reducible refine rd_false ?_) | (with_reducible refine rd_m1 ?_) | (with_reducible refine rd_isS ?_)
  | ((with_reducible refine rd_eq ?hs ?_); (case hs => exact rfl)) | ((with_reducible refine rd_ne ?hs ?_); (case hs => exact rfl))
  | (with_reducible refine rd_listRg ?_) | (with_reducible refine rd_rg2 ?_) | (with_reducible refine rd_rgk ?_)
  | (with_reducible refine rd_dnew ?_) | (with_reducible refine rd_ddel ?_) | (with_reducible refine rd_kw ?_) | (with_reducible refine rd_callS ?_) | (with_reducible refine rd_dc ?_) | (with_reducible refine rd_for ?_) | (with_reducible refine rd_tru ?_) | (with_reducible refine rd_truI ?_)
  | (with_reducible refine rd_nil ?_) | (with_reducible refine rd_cons ?_) | (with_reducible refine rd_call ?_) | (with_reducible refine rd_cb ?_)
  | (with_reducible refine rd_tup ?_) | (with_reducible refine rd_lst ?_) | (with_reducible refine rd_dget ?_) | (with_reducible refine rd_dput ?_) | (with_reducible refine rd_dget2 ?_) | (with_reducible refine rd_sl ?_)
  | (with_reducible refine rd_nopart ?_) | (with_reducible refine rd_part ?_) | (with_reducible refine rd_parti ?_) | (with_reducible refine rd_bm ?_) | (with_reducible refine rd_bm0 ?_)
  | (with_reducible refine rd_int ?_) | (with_reducible refine rd_intb ?_) | (with_reducible refine rd_abs ?_) | (with_reducible refine rd_min2 ?_) | (with_reducible refine rd_max2 ?_))
local macro_rules | `(tactic| walk_at "rvs") => `(tactic| repeat (walk_at "rv"))

/-- what makes letters yes at u -/
def rulesOf (z : Str) (u : Int) (rs : List (List Int)) (h : Int) (ns : List Int) : Prop := ∃ r ∈ rs, h = headF r ∧ u < h ∧ heldBy z "s" h = true ∧ -u ∉ r ∧ ns = needI z r
abbrev Tr := Int × Int × List Int
def RuleV (K : PySem.W.Frag) (H : Hp) (b : Addr) (v : V) (t : Tr) : Prop := ∃ tt nd, v = .ref tt ∧ SqT K H tt [.int t.1, .int t.2.1, .ref nd] ∧ H nd = some (.lst (t.2.2.map V.int)) ∧ nd ≠ b
theorem paired_map {α β : Type} {R S : α → β → Prop} (h : ∀ a b, R a b → S a b) : ∀ {l : List α} {m : List β}, Paired R l m → Paired S l m
  | _, _, .nil => .nil
  | _, _, .cons a t => .cons (h _ _ a) (paired_map h t)
theorem paired_app {α β : Type} {R : α → β → Prop} {a : α} {b : β} (h : R a b) : ∀ {l : List α} {m : List β}, Paired R l m → Paired R (l ++ [a]) (m ++ [b])
  | _, _, .nil => .cons h .nil
  | _, _, .cons x t => .cons x (paired_app h t)
theorem paired_get {α β : Type} {R : α → β → Prop} : ∀ {l : List α} {m : List β} {i : Nat} {b : β}, Paired R l m → m[i]? = some b → ∃ a, l[i]? = some a ∧ R a b
  | _, _, 0, b, .cons h _, e => by
    obtain rfl : _ = b := Option.some.inj e
    exact ⟨_, rfl, h⟩
  | _, _, i + 1, b, .cons _ t, e => paired_get (i := i) t e
  | _, _, i, b, .nil, e => by simp at e
theorem paired_len {α β : Type} {R : α → β → Prop} : ∀ {l : List α} {m : List β}, Paired R l m → l.length = m.length
  | _, _, .nil => rfl
  | _, _, .cons _ t => congrArg (· + 1) (paired_len t)
theorem RuleV.ex {K : PySem.W.Frag} {H H' : Hp} {b : Addr} {v : V} {t : Tr} (e : Evl.Ex H H') (h : RuleV K H b v t) : RuleV K H' b v t := by
  obtain ⟨tt, nd, h1, h2, h3, h4⟩ := h
  exact ⟨tt, nd, h1, Evl.ex_t e h2, e _ _ h3, h4⟩
theorem RuleV.upd {K : PySem.W.Frag} {H : Hp} {b : Addr} {v : V} {t : Tr} {ys : List V} {o : HO} (hb : H b = some (.lst ys)) (h : RuleV K H b v t) : RuleV K (upd H b o) b v t := by
  obtain ⟨tt, nd, h1, h2, h3, h4⟩ := h
  exact ⟨tt, nd, h1, tup_upd hb lst_not h2, (upd_ne h4).trans h3, h4⟩
theorem rulesOf_snoc {z : Str} {u h : Int} {ns : List Int} {rs : List (List Int)} {r : List Int} : rulesOf z u (rs ++ [r]) h ns ↔ rulesOf z u rs h ns ∨ (h = headF r ∧ u < h ∧ heldBy z "s" h = true ∧ -u ∉ r ∧ ns = needI z r) := by
  unfold rulesOf
  constructor
  · rintro ⟨s, hs, q⟩
    rcases List.mem_append.mp hs with hs | hs
    · exact .inl ⟨s, hs, q⟩
    · rw [List.mem_singleton.mp hs] at q
      exact .inr q
  · rintro (⟨s, hs, q⟩ | q)
    · exact ⟨s, List.mem_append_left _ hs, q⟩
    · exact ⟨r, List.mem_append_right _ List.mem_cons_self, q⟩
theorem rulesOf_nil {z : Str} {u h : Int} {ns : List Int} : ¬ rulesOf z u [] h ns := fun ⟨_, hs, _⟩ => nomatch hs
section
variable {P : Program} {w : World} {K : PySem.W.Frag} {mg : Str → Option Value} {base : Heap}
def spRules (K : PySem.W.Frag) : Sp := fun vs H Q _ => ∃ (a c : Addr) (z : Str) (n : Nat) (rs : List (List Int)) (u : Int), vs = [.ref a, .int u] ∧ SentC K H n a c z rs ∧ 0 ≤ u ∧
  ∀ (b : Addr) (ys : List V) (rl : List Tr) (H' : Hp), Evl.Ex H H' → H b = none → H' b = some (.lst ys) → Paired (RuleV K H' b) ys rl → (∀ h ns, (∃ p, (p, h, ns) ∈ rl) ↔ rulesOf z u rs h ns) → rl.length ≤ 1000 → Q (.ref b) H'
theorem ok_rules {f fO fH fN : Addr} {fd fdO fdH fdN : FuncData} (F : Fun K "further_rules" "further_rules" sfurther_rules f fd) (T : Bl mg)
    (Ghead_of : FnOk P w K mg base CX0 1 fH fdH ["clause"] (spHead K)) (Chead_of : Callee K mg "head_of" fH fdH ["clause"])
    (Gowner_of : FnOk P w K mg base CX0 1 fO fdO ["sentence", "letter"] (spOwner K)) (Cowner_of : Callee K mg "owner_of" fO fdO ["sentence", "letter"])
    (Gneeded_letters : FnOk P w K mg base CX0 2 fN fdN ["sentence", "clause"] (spNeeded K)) (Cneeded_letters : Callee K mg "needed_letters" fN fdN ["sentence", "clause"]) :
    FnOk P w K mg base CX0 3 f fd ["sentence", "letter"] (spRules K) := by
  refine F.ok scfurther_rules (fun vs H Q E h => ?_) (fun cdv A outer s H vs Q E hr h => ?_)
  · obtain ⟨a, c, z, n, rs, u, rfl, _⟩ := h
    rfl
  · obtain ⟨a, c, z, n, rs, u, rfl, ⟨xs, ha, hc, hd, hz, hn, hrs, hl⟩, hu, q⟩ := h
    refine ⟨_, (pss_cons (ps_set (i := 2) scfurther_rules.nd rfl (Or.inl rfl) (pe_lst pa_nil))
 (pss_cons (ps_for PassesOwn.never rfl (pi_enumT (K := K) rfl (by rfl) T.enumerate (pa_cons (pe_ix (ik_tup (K := K) rfl) (pv 0) pe_int (fun _ _ => rfl)) pa_nil)) (pgk_tup (K := K) rfl rfl (pgs_cons (pg_name (i := 3) scfurther_rules.nd rfl (Or.inl rfl)) (pgs_cons (pg_name (i := 4) scfurther_rules.nd rfl (Or.inl rfl)) pgs_nil))) (pss_cons (ps_set (i := 5) scfurther_rules.nd rfl (Or.inl rfl) (pe_call Ghead_of (hr.mono (by decide)) (by rfl) Chead_of.m Chead_of.k Chead_of.b .nil pass0 (pa_cons (pv 4) pa_nil)))
 (pss_one (ps_if (PW.pt (pw_and (pt_cmpR op_gt (pv 5) (pv 1) (nomark _)) (pw_and (pt_cmpR op_eq (pe_call Gowner_of (hr.mono (by decide)) (by rfl) Cowner_of.m Cowner_of.k Cowner_of.b .nil pass0 (pa_cons (pv 0) (pa_cons (pv 5) pa_nil))) pe_str (nomark _)) (pw_and1 (pt_cmpR (ok_notIn (K := K) rfl) (pe_un un_neg (pv 1)) (pv 4) (by rfl)))))) (pss_one (ps_expr (pe_bm PySem.F.plainAttrs_list PySem.F.slot_list_append PySem.F.type_list_append mt_append (pv 2) (pa_cons (pe_tup (pa_cons (pv 3) (pa_cons (pv 5) (pa_cons (pe_call Gneeded_letters (hr.mono (by decide)) (by rfl) Cneeded_letters.m Cneeded_letters.k Cneeded_letters.b .nil pass0 (pa_cons (pv 0) (pa_cons (pv 4) pa_nil))) pa_nil)))) pa_nil)))) pss_nil))))
 (pss_one (ps_ret (pv 2))))), ?_⟩
    refine rd_start (σ' := [some (.ref a), some (.int u), none, none, none, none]) rfl ?_
    have lx : xs.length = rs.length := by rw [dpAll_len hd, List.length_map]
    walk_at "rds"
    refine ⟨Nat.zero_le _, fun b hb => ?_⟩
    have e1 := Evl.Ex.new (o := .lst []) hb
    walk_at "rds"
    refine rd_ixT (x := .ref c) (Evl.ex_t e1 ha) rfl ?_
    refine ⟨c, xs, rfl, Evl.ex_t e1 hc, ?_⟩
    refine fr_enumT (xs := xs) rfl (fun i σ' H' => ∃ (x3 x4 x5 : Option V) (ys : List V) (rl : List Tr), σ' = [some (.ref a), some (.int u), some (.ref b), x3, x4, x5] ∧ Evl.Ex H H' ∧ H' b = some (.lst ys) ∧ Paired (RuleV K H' b) ys rl ∧
        (∀ h ns, (∃ p, (p, h, ns) ∈ rl) ↔ rulesOf z u (rs.take i) h ns) ∧ rl.length ≤ i)
      ⟨_, _, _, [], [], rfl, e1, upd_same, .nil, fun h ns => ⟨fun ⟨_, h⟩ => (nomatch h), fun h => (rulesOf_nil h).elim⟩, Nat.le_refl _⟩ (fun i σ' H' ⟨_, _, _, _, _, _, e, _⟩ => Evl.ex_t e hc) (fun i σ' H1 t hi hP ht => ?_) fun σ' H' hP => ?_
    · obtain ⟨x3, x4, x5, ys, rl, rfl, e, hy, hp, hm, hlen⟩ := hP
      have hxi : xs[i]? = some xs[i] := List.getElem?_eq_getElem hi
      have hxd : xs.getD i .non = xs[i] := by rw [List.getD_eq_getElem?_getD, hxi] <;> rfl
      obtain ⟨d0, hd0, hx⟩ := dpAll_get hd hxi
      rw [List.getElem?_map] at hd0
      obtain ⟨r, hr', rfl⟩ := Option.map_eq_some_iff.mp hd0
      have hrr := hrs r (List.mem_of_getElem? hr')
      obtain ⟨v, ev, sv⟩ := dp_row hx
      rw [hxd, ev]
      have e2 := e.trans (Evl.Ex.new (o := .tup [.int (i : Nat), .ref v]) ht)
      have hy2 : (upd H1 t (.tup [.int (i : Nat), .ref v])) b = some (.lst ys) := (upd_ne (ne_of_none hy ht)).trans hy
      have hp2 := paired_map (fun _ _ => RuleV.ex (Evl.Ex.new (o := .tup [.int (i : Nat), .ref v]) ht)) hp
      clear hp hy e
      generalize upd H1 t (.tup [.int (i : Nat), .ref v]) = H2 at e2 hy2 hp2 ⊢
      refine rd_start (σ' := [some (.ref a), some (.int u), some (.ref b), some (.int (i : Nat)), some (.ref v), x5]) rfl ?_
      have htk : rs.take (i + 1) = rs.take i ++ [r] := by rw [List.take_add_one, hr'] <;> rfl
      walk_at "rqs"
      refine ⟨v, r, rfl, Evl.ex_t e2 sv, by have := hrr.len; omega, fun H3 e3 => ?_⟩
      have e13 := e2.trans e3
      have hy3 := e3 _ _ hy2
      have hp3 := paired_map (fun _ _ => RuleV.ex e3) hp2
      have stay : ∀ {H4 : Hp}, Evl.Ex H3 H4 → ¬ (u < headF r ∧ heldBy z "s" (headF r) = true ∧ -u ∉ r) → ∀ x5, ∃ (x3 x4 x5' : Option V) (ys : List V) (rl : List Tr), [some (V.ref a), some (.int u), some (.ref b), some (.int (i : Nat)), some (.ref v), x5] = [some (.ref a), some (.int u), some (.ref b), x3, x4, x5'] ∧ Evl.Ex H H4 ∧ H4 b = some (.lst ys) ∧ Paired (RuleV K H4 b) ys rl ∧
          (∀ h ns, (∃ p, (p, h, ns) ∈ rl) ↔ rulesOf z u (rs.take (i + 1)) h ns) ∧ rl.length ≤ i + 1 := fun e4 hno x5 => by
        refine ⟨_, _, _, ys, rl, rfl, e13.trans e4, e4 _ _ hy3, paired_map (fun _ _ => RuleV.ex e4) hp3, fun h ns => ?_, by omega⟩
        rw [hm, htk, rulesOf_snoc]
        exact ⟨.inl, fun q => q.elim id fun ⟨q1, q2, q3, q4, _⟩ => absurd (q1 ▸ ⟨q2, q3, q4⟩) hno⟩
      walk_at "rds"
      refine rd_ite (fun c1 => ?_) (fun c1 => ?_)
      · have hpos : headF r ∈ r := (headF_mem r).resolve_left fun h => by omega
        have hb1 := hrr.lit _ hpos
        walk_at "rds"
        refine ⟨a, c, z, n, headF r, rfl, Evl.ex_t e13 ha, hz, hn, by omega, by omega, ?_⟩
        walk_at "rds"
        refine rd_iteb (b := heldBy z "s" (headF r)) (fun c2 => ?_) (fun c2 => ?_)
        · walk_at "rds"
          refine rd_notInT (Evl.ex_t e13 sv) ?_
          walk_at "rds"
          refine rd_iten (fun c3 => ?_) (fun c3 => ?_)
          · walk_at "rds"
            refine rd_tyL hy3 ?_
            walk_at "rds"
            refine ⟨a, c, v, z, n, r, rfl, Evl.ex_t e13 ha, hz, hn, hrr, Evl.ex_t e13 sv, fun nd H4 e4 hn4 hnd => ?_⟩
            walk_at "rds"
            refine ⟨(by show 3 ≤ sizeLine; decide), fun tt htt => ?_⟩
            have e5 := Evl.Ex.new (o := .tup [V.int (i : Nat), .int (headF r), .ref nd]) htt
            walk_at "rds"
            have hy5 := (e4.trans e5) _ _ hy3
            have lys : ys.length = rl.length := paired_len hp3
            refine rd_append hy5 (by omega) ?_
            walk_at "rds"
            have nb : nd ≠ b := fun q => by
              rw [q, hy3] at hn4
              cases hn4
            have hnew : RuleV K (upd H4 tt (.tup [V.int (i : Nat), .int (headF r), .ref nd])) b (.ref tt) (((i : Nat) : Int), headF r, needI z r) := ⟨tt, nd, rfl, SqT.of upd_same, e5 _ _ hnd, nb⟩
            refine ⟨_, _, _, ys ++ [.ref tt], rl ++ [(((i : Nat) : Int), headF r, needI z r)], rfl, Evl.Ex.mut ((e13.trans e4).trans e5) hb, upd_same, ?_, fun h ns => ?_, by rw [List.length_append, List.length_singleton]; omega⟩
            · exact paired_map (fun _ _ => RuleV.upd hy5) (paired_app hnew (paired_map (fun _ _ => RuleV.ex (e4.trans e5)) hp3))
            · rw [htk, rulesOf_snoc, ← hm]
              constructor
              · rintro ⟨p, hp⟩
                rcases List.mem_append.mp hp with hp | hp
                · exact .inl ⟨p, hp⟩
                · cases List.mem_singleton.mp hp
                  exact .inr ⟨rfl, c1, c2, c3, rfl⟩
              · rintro (⟨p, hp⟩ | ⟨rfl, _, _, _, rfl⟩)
                · exact ⟨p, List.mem_append_left _ hp⟩
                · exact ⟨_, List.mem_append_right _ List.mem_cons_self⟩
          · walk_at "rds"
            exact stay (Evl.Ex.refl _) (fun q => q.2.2 c3) _
        · walk_at "rds"
          exact stay (Evl.Ex.refl _) (fun q => by rw [q.2.1] at c2; cases c2) _
      · walk_at "rds"
        exact stay (Evl.Ex.refl _) (fun q => c1 q.1) _
    · obtain ⟨x3, x4, x5, ys, rl, rfl, e, hy, hp, hm, hlen⟩ := hP
      rw [lx, List.take_of_length_le (Nat.le_refl _)] at hm
      walk_at "rds"
      exact q b ys rl H' e hb hy hp hm (by omega)
end
end KA
set_option Elab.async false
set_option linter.all false
set_option maxRecDepth 100000
set_option maxHeartbeats 400000
set_option pp.maxSteps 300
namespace KA
open PySem PySem.Spec PyProof.Rows L2 Ea
abbrev swith_further : Stmt := topS 12
theorem scwith_further : FnScope ["sentence", "letter", "makers", "found", "rules", "many", "place", "head", "needed", "made", "one"] ["sentence", "letter", "makers"] (defScope swith_further) :=
  ⟨rfl, rfl, rfl, by decide +kernel, rfl, by decide +kernel, by decide +kernel⟩
local macro_rules | `(tactic| walk_at "rd") => `(tactic| first
  | (with_reducible refine rd_seq ?_) | (with_reducible refine rd_asg ?_) | (with_reducible refine rd_if ?_) | (with_reducible refine rd_ret ?_) | (with_reducible refine rd_next ?_)
  | (with_reducible refine rd_drop ?_) | ((with_reducible refine rd_name (σ' := ?ss) ?hs ?_); (case hs => (dsimp only [List.set]; exact rfl)))
  | ((with_reducible refine rd_var (v := ?vv) ?hv ?_); (case hv => exact rfl)) | (with_reducible refine rd_c ?_) | (with_reducible refine rd_op ?_) | (with_reducible refine rd_un ?_)
  | (with_reducible refine rd_I0 ?_) | (with_reducible refine rd_U ?_) | (with_reducible refine rd_test ?_) | (with_reducible refine rd_B ?_) | (with_reducible refine rd_k ?_)
  | (with_reducible refine rd_not ?_) | (with_reducible refine rd_and ?_) | (with_reducible refine rd_or ?_) | (with_reducible refine rd_ifE ?_)
  | (with_reducible refine rd_par ?_) | ((with_reducible refine rd_par2 (σ' := ?ss) ?hs ?_); (case hs => (dsimp only [List.set]; exact rfl)))
  | (with_reducible refine rd_gsub ?_) | (with_reducible refine rd_andV ?_) | (with_reducible refine rd_orV ?_) | (with_reducible refine rd_notV ?_)
  | (with_reducible refine rd_lc ?_) | (with_reducible refine rd_iTup ?_) | (with_reducible refine rd_iList ?_) | (with_reducible refine rd_iRng1 ?_) | (with_reducible refine rd_iRng2 ?_) | (with_reducible refine rd_iEnumT ?_) | (with_reducible refine rd_iEnum ?_) | (with_reducible refine rd_iZipM ?_) | (with_reducible refine rd_iEnumS ?_) | (with_reducible refine rd_iKeys ?_) | (with_reducible refine rd_din ?_) | (with_reducible refine rd_dnotin ?_)
  | (with_reducible refine rd_yes ?_) | (with_reducible refine rd_true ?_) | (with_reducible refine rd_false ?_) | (with_reducible refine rd_m1 ?_) | (with_reducible refine rd_isS ?_)
  | ((with_reducible refine rd_eq ?hs ?_); (case hs => exact rfl)) | ((with_reducible refine rd_ne ?hs ?_); (case hs => exact rfl))
  | (with_reducible refine rd_listRg ?_) | (with_reducible refine rd_rg2 ?_) | (with_reducible refine rd_rgk ?_)
  | (with_reducible refine rd_dnew ?_) | (with_reducible refine rd_ddel ?_) | (with_reducible refine rd_kw ?_) | (with_reducible refine rd_callS ?_) | (with_reducible refine rd_dc ?_) | (with_reducible refine rd_for ?_) | (with_reducible refine rd_tru ?_) | (with_reducible refine rd_truI ?_)
  | (with_reducible refine rd_nil ?_) | (with_reducible refine rd_cons ?_) | (with_reducible refine rd_call ?_) | (with_reducible refine rd_cb ?_)
  | (with_reducible refine rd_tup ?_) | (with_reducible refine rd_lst ?_) | (with_reducible refine rd_dget ?_) | (with_reducible refine rd_dput ?_) | (with_reducible refine rd_dget2 ?_) | (with_reducible refine rd_sl ?_)
  | (with_reducible refine rd_nopart ?_) | (with_reducible refine rd_part ?_) | (with_reducible refine rd_parti ?_) | (with_reducible refine rd_bm ?_) | (with_reducible refine rd_bm0 ?_)
  | (with_reducible refine rd_int ?_) | (with_reducible refine rd_intb ?_) | (with_reducible refine rd_abs ?_) | (with_reducible refine rd_min2 ?_) | (with_reducible refine rd_max2 ?_))
local macro_rules | `(tactic| walk_at "rds") => `(tactic| repeat (walk_at "rd"))
local macro_rules | `(tactic| walk_at "rq") => `(tactic| first
  | (with_reducible refine rd_seq ?_) | (with_reducible refine rd_asg ?_) | (with_reducible refine rd_ret ?_) | (with_reducible refine rd_next ?_)
  | (with_reducible refine rd_drop ?_) | ((with_reducible refine rd_name (σ' := ?ss) ?hs ?_); (case hs => (dsimp only [List.set]; exact rfl)))
  | ((with_reducible refine rd_var (v := ?vv) ?hv ?_); (case hv => exact rfl)) | (with_reducible refine rd_c ?_) | (with_reducible refine rd_op ?_) | (with_reducible refine rd_un ?_)
  | (with_reducible refine rd_I0 ?_) | (with_reducible refine rd_U ?_) | (with_reducible refine rd_test ?_) | (with_reducible refine rd_B ?_) | (with_reducible refine rd_k ?_)
  | (with_reducible refine rd_not ?_) | (with_reducible refine rd_and ?_) | (with_reducible refine rd_or ?_) | (with_reducible refine rd_ifE ?_)
  | (with_reducible refine rd_par ?_) | ((with_reducible refine rd_par2 (σ' := ?ss) ?hs ?_); (case hs => (dsimp only [List.set]; exact rfl)))
  | (with_reducible refine rd_gsub ?_) | (with_reducible refine rd_andV ?_) | (with_reducible refine rd_orV ?_) | (with_reducible refine rd_notV ?_)
  | (with_reducible refine rd_lc ?_) | (with_reducible refine rd_iTup ?_) | (with_reducible refine rd_iList ?_) | (with_reducible refine rd_iRng1 ?_) | (with_reducible refine rd_iRng2 ?_) | (with_reducible refine rd_iEnumT ?_) | (with_reducible refine rd_iEnum ?_) | (with_reducible refine rd_iZipM ?_) | (with_reducible refine rd_iEnumS ?_) | (with_reducible refine rd_iKeys ?_) | (with_reducible refine rd_din ?_) | (with_reducible refine rd_dnotin ?_)
  | (with_reducible refine rd_yes ?_) | (with_reducible refine rd_true ?_) | (with_reducible refine rd_false ?_) | (with_reducible refine rd_m1 ?_) | (with_reducible refine rd_isS ?_)
  | ((with_reducible refine rd_eq ?hs ?_); (case hs => exact rfl)) | ((with_reducible refine rd_ne ?hs ?_); (case hs => exact rfl))
  | (with_reducible refine rd_listRg ?_) | (with_reducible refine rd_rg2 ?_) | (with_reducible refine rd_rgk ?_)
  | (with_reducible refine rd_dnew ?_) | (with_reducible refine rd_ddel ?_) | (with_reducible refine rd_kw ?_) | (with_reducible refine rd_callS ?_) | (with_reducible refine rd_dc ?_) | (with_reducible refine rd_for ?_) | (with_reducible refine rd_tru ?_) | (with_reducible refine rd_truI ?_)
  | (with_reducible refine rd_nil ?_) | (with_reducible refine rd_cons ?_) | (with_reducible refine rd_call ?_) | (with_reducible refine rd_cb ?_)
  | (with_reducible refine rd_tup ?_) | (with_reducible refine rd_lst ?_) | (with_reducible refine rd_dget ?_) | (with_reducible refine rd_dput ?_) | (with_reducible refine rd_dget2 ?_) | (with_reducible refine rd_sl ?_)
  | (with_reducible refine rd_nopart ?_) | (with_reducible refine rd_part ?_) | (with_reducible refine rd_parti ?_) | (with_reducible refine rd_bm ?_) | (with_reducible refine rd_bm0 ?_)
  | (with_reducible refine rd_int ?_) | (with_reducible refine rd_intb ?_) | (with_reducible refine rd_abs ?_) | (with_reducible refine rd_min2 ?_) | (with_reducible refine rd_max2 ?_))
local macro_rules | `(tactic| walk_at "rqs") => `(tactic| repeat (walk_at "rq"))
local macro_rules | `(tactic| walk_at "rv") => `(tactic| first
  | (with_reducible refine rd_seq ?_) | (with_reducible refine rd_asg ?_) | (with_reducible refine rd_ret ?_) | (with_reducible refine rd_next ?_)
  | (with_reducible refine rd_drop ?_) | ((with_reducible refine rd_name (σ' := ?ss) ?hs ?_); (case hs => (dsimp only [List.set]; exact rfl)))
  | ((with_reducible refine rd_var (v := ?vv) ?hv ?_); (case hv => exact rfl)) | (with_reducible refine rd_c ?_) | (with_reducible refine rd_op ?_) | (with_reducible refine rd_un ?_)
  | (with_reducible refine rd_I0 ?_) | (with_reducible refine rd_U ?_) | (with_reducible refine rd_test ?_) | (with_reducible refine rd_B ?_) | (with_reducible refine rd_k ?_)
  | (with_reducible refine rd_not ?_) | (with_reducible refine rd_and ?_) | (with_reducible refine rd_or ?_)
  | (with_reducible refine rd_par ?_) | ((with_reducible refine rd_par2 (σ' := ?ss) ?hs ?_); (case hs => (dsimp only [List.set]; exact rfl)))
  | (with_reducible refine rd_gsub ?_) | (with_reducible refine rd_andV ?_) | (with_reducible refine rd_orV ?_) | (with_reducible refine rd_notV ?_)
  | (with_reducible refine rd_lc ?_) | (with_reducible refine rd_iTup ?_) | (with_reducible refine rd_iList ?_) | (with_reducible refine rd_iRng1 ?_) | (with_reducible refine rd_iRng2 ?_) | (with_reducible refine rd_iEnumT ?_) | (with_reducible refine rd_iEnum ?_) | (with_reducible refine rd_iZipM ?_) | (with_reducible refine rd_iEnumS ?_) | (with_reducible refine rd_iKeys ?_) | (with_reducible refine rd_din ?_) | (with_reducible refine rd_dnotin ?_)
  | (with_reducible refine rd_yes ?_) | (with_reducible refine rd_true ?_) | (with_reducible refine rd_false ?_) | (with_reducible refine rd_m1 ?_) | (with_reducible refine rd_isS ?_)
  | ((with_reducible refine rd_eq ?hs ?_); (case hs => exact rfl)) | ((with_reducible refine rd_ne ?hs ?_); (case hs => exact rfl))
  | (with_reducible refine rd_listRg ?_) | (with_reducible refine rd_rg2 ?_) | (with_reducible refine rd_rgk ?_)
  | (with_reducible refine rd_dnew ?_) | (with_reducible refine rd_ddel ?_) | (with_reducible refine rd_kw ?_) | (with_reducible refine rd_callS ?_) | (with_reducible refine rd_dc ?_) | (with_reducible refine rd_for ?_) | (with_reducible refine rd_tru ?_) | (with_reducible refine rd_truI ?_)
  | (with_reducible refine rd_nil ?_) | (with_reducible refine rd_cons ?_) | (with_reducible refine rd_call ?_) | (with_reducible refine rd_cb ?_)
  | (with_reducible refine rd_tup ?_) | (with_reducible refine rd_lst ?_) | (with_reducible refine rd_dget ?_) | (with_reducible refine rd_dput ?_) | (with_reducible refine rd_dget2 ?_) | (with_reducible refine rd_sl ?_)
  | (with_reducible refine rd_nopart ?_) | (with_reducible refine rd_part ?_) | (with_reducible refine rd_parti ?_) | (with_reducible refine rd_bm ?_) | (with_reducible refine rd_bm0 ?_)
  | (with_reducible refine rd_int ?_) | (with_reducible refine rd_intb ?_) | (with_reducible refine rd_abs ?_) | (with_reducible refine rd_min2 ?_) | (with_reducible refine rd_max2 ?_))
local macro_rules | `(tactic| walk_at "rvs") => `(tactic| repeat (walk_at "rv"))

/-- the least set that has S, and what rules make of it -/
inductive Cl (S : Int → Prop) (R : Int → List Int → Prop) : Int → Prop
  | base {x : Int} : S x → Cl S R x
  | step {h : Int} {ns : List Int} : R h ns → (∀ y ∈ ns, Cl S R y) → Cl S R h
theorem Cl.sub {S : Int → Prop} {R : Int → List Int → Prop} {p : Int → Prop} (h1 : ∀ x, S x → p x) (h2 : ∀ h ns, R h ns → (∀ y ∈ ns, p y) → p h) : ∀ x, Cl S R x → p x := by
  intro x hx
  induction hx with
  | base h => exact h1 _ h
  | step hr _ ih => exact h2 _ _ hr ih
/-- all but the dict stays -/
def KpB (D : Addr) (H H' : Hp) : Prop := ∀ a o, a ≠ D → H a = some o → H' a = some o
theorem KpB.refl {D : Addr} {H : Hp} : KpB D H H := fun _ _ _ h => h
theorem KpB.trans {D : Addr} {H H1 H2 : Hp} (h : KpB D H H1) (h2 : KpB D H1 H2) : KpB D H H2 := fun a o n e => h2 a o n (h a o n e)
theorem KpB.ex {D : Addr} {H H1 : Hp} (h : Evl.Ex H H1) : KpB D H H1 := fun a o _ e => h a o e
theorem KpB.upd {D : Addr} {H : Hp} {o : HO} : KpB D H (upd H D o) := fun a u n e => (upd_ne n).trans e
theorem KpB.tup {K : PySem.W.Frag} {D a : Addr} {H H1 : Hp} {kvs : List (Key × V)} {xs : List V} (h : KpB D H H1) (hD : H D = some (.dK kvs)) (s : SqT K H a xs) : SqT K H1 a xs := by
  have hn : ∀ {o : HO}, H a = some o → (∀ kv, o ≠ .dK kv) → H1 a = some o := fun e c => h a _ (fun z => (by rw [z, hD] at e; cases e; exact c _ rfl)) e
  rcases s with (s | ⟨o, s⟩) | s
  · exact .inl (.inl (hn s nofun))
  · exact .inl (.inr ⟨o, hn s nofun⟩)
  · exact .inr s
theorem KpB.rule {K : PySem.W.Frag} {D b : Addr} {H H1 : Hp} {kvs : List (Key × V)} {v : V} {t : Tr} (h : KpB D H H1) (hD : H D = some (.dK kvs)) (r : RuleV K H b v t) : RuleV K H1 b v t := by
  obtain ⟨tt, nd, h1, h2, h3, h4⟩ := r
  exact ⟨tt, nd, h1, h.tup hD h2, h nd _ (fun z => (by rw [z, hD] at h3; cases h3)) h3, h4⟩
/-- what the dict's keys are while it grows -/
structure Grow (n : Nat) (S : Int → Prop) (R : Int → List Int → Prop) (ks : List Int) : Prop where
  nd : ks.Nodup
  rng : ∀ x ∈ ks, 1 ≤ x ∧ x ≤ (n : Int)
  sub : ∀ x ∈ ks, Cl S R x
  sup : ∀ x, S x → x ∈ ks
theorem dget_in {H : Hp} {d : Addr} {kvs : List (Key × V)} {ks : List Int} {x : Int} (h : H d = some (.dK kvs)) (hk : KeysI kvs ks) : ∃ o, DGet H d (.int x) o ∧ o.isSome = decide (x ∈ ks) :=
  ⟨valV kvs (Sum.inl x), DGet.k (k := Sum.inl x) h, val_some hk⟩
section
variable {P : Program} {w : World} {K : PySem.W.Frag} {mg : Str → Option Value} {base : Heap}
def spFurther (K : PySem.W.Frag) : Sp := fun vs H Q _ => ∃ (a c m : Addr) (z : Str) (n : Nat) (rs : List (List Int)) (u : Int) (kvs : List (Key × V)) (ks : List Int), vs = [.ref a, .int u, .ref m] ∧ SentC K H n a c z rs ∧ 0 ≤ u ∧
  H m = some (.dK kvs) ∧ KeysI kvs ks ∧ ks.Nodup ∧ (∀ x ∈ ks, 1 ≤ x ∧ x ≤ (n : Int)) ∧
  ∀ (D : Addr) (kvs' : List (Key × V)) (ks' : List Int) (H' : Hp), Evl.Ex H H' → H D = none → H' D = some (.dK kvs') → KeysI kvs' ks' → ks'.Nodup → (∀ x ∈ ks', 1 ≤ x ∧ x ≤ (n : Int)) → (∀ x, x ∈ ks' ↔ Cl (fun x => x ∈ ks) (rulesOf z u rs) x) → Q (.ref D) H'
theorem ok_further {f fR : Addr} {fd fdR : FuncData} (F : Fun K "with_further" "with_further" swith_further f fd) (T : Bl mg)
    (Gfurther_rules : FnOk P w K mg base CX0 3 fR fdR ["sentence", "letter"] (spRules K)) (Cfurther_rules : Callee K mg "further_rules" fR fdR ["sentence", "letter"]) :
    FnOk P w K mg base CX0 4 f fd ["sentence", "letter", "makers"] (spFurther K) := by
  refine F.ok scwith_further (fun vs H Q E h => ?_) (fun cdv A outer s H vs Q E hr h => ?_)
  · obtain ⟨a, c, m, z, n, rs, u, kvs, ks, rfl, _⟩ := h
    rfl
  · obtain ⟨a, c, m, z, n, rs, u, kvs, ks, rfl, hs, hu, hm, hk, hnd, hrng, q⟩ := h
    refine ⟨_, (pss_cons (ps_set (i := 3) scwith_further.nd rfl (Or.inr rfl) (pe_lock (pe_dc (own := [("made", 9)]) (g := gName 9) rfl scwith_further.nd (pi_keys (pv 2)) (blkOk_by (own := [("made", 9)]) (N := ["sentence", "letter", "makers", "found", "rules", "many", "place", "head", "needed", "made", "one"]) (sc := defScope swith_further) (by decide +kernel)) (fun _ _ _ _ _ => (pg_name (i := 9) scwith_further.nd rfl (Or.inl rfl))) (fun _ _ _ _ _ => pts_nil) (fun _ _ _ _ _ => (pv 9)) (fun _ _ _ _ _ => (pe_dget (hu_of hr) (pv 2) (pv 9) (fun _ _ => rfl))))))
 (pss_cons (ps_set (i := 4) scwith_further.nd rfl (Or.inl rfl) (pe_call Gfurther_rules (hr.mono (by decide)) (by rfl) Cfurther_rules.m Cfurther_rules.k Cfurther_rules.b .nil pass0 (pa_cons (pv 0) (pa_cons (pv 1) pa_nil))))
 (pss_cons (ps_set (i := 5) scwith_further.nd rfl (Or.inl rfl) (pe_un un_neg pe_int))
 (pss_cons (ps_while PassesOwn.never (pt_cmpR op_lt (pv 5) (pe_callB call_lenD (by rfl) T.len (by decide +kernel) (pa_cons (pv 3) pa_nil)) (nomark _)) (pss_cons (ps_set (i := 5) scwith_further.nd rfl (Or.inl rfl) (pe_callB call_lenD (by rfl) T.len (by decide +kernel) (pa_cons (pv 3) pa_nil)))
 (pss_one (ps_for PassesOwn.never rfl (ik_listI (K := K) rfl (pv 4)) (pgk_tup (K := K) rfl rfl (pgs_cons (pg_name (i := 6) scwith_further.nd rfl (Or.inl rfl)) (pgs_cons (pg_name (i := 7) scwith_further.nd rfl (Or.inl rfl)) (pgs_cons (pg_name (i := 8) scwith_further.nd rfl (Or.inl rfl)) pgs_nil)))) (pss_one (ps_if (PW.pt (pw_and (pt_cmp (pc_dnotin (hu_of hr) (pv 7) (pv 3))) (pw_and1 (pt_val (pe_callB (c_all (K := K) rfl rfl) (by rfl) T.all (by decide +kernel) (pa_cons (pe_lc (own := [("one", 10)]) (g := gName 10) rfl scwith_further.nd (ik_listI (K := K) rfl (pv 8)) (blkOk_by (own := [("one", 10)]) (N := ["sentence", "letter", "makers", "found", "rules", "many", "place", "head", "needed", "made", "one"]) (sc := defScope swith_further) (by decide +kernel)) (fun _ _ _ _ _ => (pg_name (i := 10) scwith_further.nd rfl (Or.inl rfl))) (fun _ _ _ _ _ => pts_nil) (fun _ _ _ _ _ => (pe_cmp (pc_din (hu_of hr) (pv 10) (pv 3))))) pa_nil)))))) (pss_one (ps_dput (hu_of hr) (pv 3) (pv 7) (pv 6) rfl)) pss_nil))))))
 (pss_one (ps_ret (pv 3))))))), ?_⟩
    refine rd_start (σ' := [some (.ref a), some (.int u), some (.ref m), none, none, none, none, none, none, none, none]) rfl ?_
    obtain ⟨xs, _, _, _, hz, hn, hrs, _⟩ := id hs
    have kl : ks.length ≤ n := nodup_le hnd hrng
    walk_at "rds"
    refine rd_lockE ⟨m, .dK kvs, hm, True.intro, fun od => ?_⟩
    have hm1 : (upd H m (.frz od (.dK kvs))) m = some (.frz od (.dK kvs)) := upd_same
    walk_at "rds"
    refine ⟨m, od, rfl, .inl ⟨kvs, hm1, ?_⟩⟩
    refine dc_keys (fun _ => true) hm1 hk (by omega) hnd (σx := fun x => [some (.ref a), some (.int u), some (.ref m), none, none, none, none, none, none, some x, none]) (fun _ => rfl) (fun _ => rfl)
      (fun x hx H' N S e kN kS => ?_) fun D kvs0 H1 e1 hD hD1 hk0 => ?_
    · walk_at "rds"
      obtain ⟨v, hv⟩ : ∃ v, valV kvs (Sum.inl x) = some v := Option.isSome_iff_exists.mp ((val_some hk).trans (decide_eq_true hx))
      exact ⟨m, v, rfl, .inl ⟨kvs, Sum.inl x, .inr ⟨od, e _ _ hm1⟩, rfl, hv.symm⟩, kN rfl v _ (Evl.Ex.refl _)⟩
    rw [List.filter_eq_self.mpr fun _ _ => rfl] at hk0
    refine ⟨e1 _ _ hm1, ?_⟩
    have hmD : m ≠ D := fun z => by
      rw [← z, hm1] at hD
      cases hD
    have hD' : H D = none := by
      rw [upd_ne hmD.symm] at hD
      exact hD
    have e2 : Evl.Ex H (upd H1 m (.dK kvs)) := fun b o e => by
      by_cases hb : b = m
      · subst hb
        rw [hm] at e
        cases e
        exact upd_same
      · rw [upd_ne hb]
        exact e1 b o ((upd_ne hb).trans e)
    have hD2 : (upd H1 m (.dK kvs)) D = some (.dK kvs0) := (upd_ne hmD.symm).trans hD1
    clear hD1 e1 hD hm1
    generalize upd H1 m (.dK kvs) = H2 at e2 hD2 ⊢
    walk_at "rds"
    refine ⟨a, c, z, n, rs, u, rfl, hs.ex e2, hu, fun b ys rl H3 e3 hb hy hp hrl hlen => ?_⟩
    have hD3 := e3 _ _ hD2
    have lys : ys.length = rl.length := paired_len hp
    have e23 := e2.trans e3
    have hDb : b ≠ D := fun z => by
      rw [z, hD2] at hb
      cases hb
    clear hb e3 hD2 e2
    walk_at "rds"
    refine rd_whileE ⟨fun mm σ' H' => ∃ (mn : Int) (x6 x7 x8 : Option V) (kv1 : List (Key × V)) (ks1 : List Int), σ' = [some (.ref a), some (.int u), some (.ref m), some (.ref D), some (.ref b), some (.int mn), x6, x7, x8, none, none] ∧ KpB D H3 H' ∧
        H' D = some (.dK kv1) ∧ KeysI kv1 ks1 ∧ Grow n (fun x => x ∈ ks) (rulesOf z u rs) ks1 ∧ -1 ≤ mn ∧ mn ≤ (ks1.length : Int) ∧ (mn < (ks1.length : Int) ∨ ∀ h ns, rulesOf z u rs h ns → (∀ y ∈ ns, y ∈ ks1) → h ∈ ks1) ∧ mm + (mn + 1).toNat = 100,
      ⟨100, -1, _, _, _, kvs0, ks, rfl, KpB.refl, hD3, hk0, ⟨hnd, hrng, fun x hx => .base hx, fun x hx => hx⟩, by decide, by omega, .inl (by omega), rfl⟩, fun mm σ' H4 hW => ?_⟩
    obtain ⟨mn, x6, x7, x8, kv1, ks1, rfl, kp, hD4, hk1, hg, h1, h2, h3, h4⟩ := hW
    have kl1 : ks1.length ≤ n := nodup_le hg.nd hg.rng
    walk_at "rds"
    refine ⟨D, kv1, rfl, hD4, ?_⟩
    rw [hk1.len]
    walk_at "rds"
    refine rd_ite (fun c1 => ?_) (fun c1 => ?_)
    · refine ⟨fun σ2 H2 => ∃ (mn : Int) (x6 x7 x8 : Option V) (kv1 : List (Key × V)) (ks2 : List Int), σ2 = [some (.ref a), some (.int u), some (.ref m), some (.ref D), some (.ref b), some (.int mn), x6, x7, x8, none, none] ∧ KpB D H3 H2 ∧
        H2 D = some (.dK kv1) ∧ KeysI kv1 ks2 ∧ Grow n (fun x => x ∈ ks) (rulesOf z u rs) ks2 ∧ mn = (ks1.length : Int) ∧ mn ≤ (ks2.length : Int) ∧ (mn < (ks2.length : Int) ∨ ∀ h ns, rulesOf z u rs h ns → (∀ y ∈ ns, y ∈ ks2) → h ∈ ks2), fun σ2 H2 hN => ?_, ?_⟩
      · obtain ⟨mn2, y6, y7, y8, kv2, ks2, g1, g2, g3, g4, g5, g6, g7, g8⟩ := hN
        refine ⟨100 - (mn2 + 1).toNat, by omega, mn2, y6, y7, y8, kv2, ks2, g1, g2, g3, g4, g5, by omega, g7, g8, by omega⟩
      · walk_at "rds"
        refine ⟨D, kv1, rfl, hD4, ?_⟩
        rw [hk1.len]
        walk_at "rds"
        refine rd_refL (SqL.of (kp _ _ hDb hy)) ?_
        have hat : ∀ i, i < ys.length → ∃ tt nd, ys[i]? = some (.ref tt) ∧ SqT K H3 tt [.int (rl.getD i (0, 0, [])).1, .int (rl.getD i (0, 0, [])).2.1, .ref nd] ∧ H3 nd = some (.lst ((rl.getD i (0, 0, [])).2.2.map V.int)) ∧ nd ≠ b ∧ rl.getD i (0, 0, []) ∈ rl := fun i hi => by
          have e4 : rl[i]? = some (rl.getD i (0, 0, [])) := by rw [List.getD_eq_getElem?_getD, List.getElem?_eq_getElem (by omega)] <;> rfl
          obtain ⟨v, g1, tt, nd, g2, g3, g4, g5⟩ := paired_get hp e4
          exact ⟨tt, nd, by rw [g1, g2], g3, g4, g5, List.mem_of_getElem? e4⟩
        obtain ⟨ndf, hndf⟩ : ∃ ndf : Nat → Addr, ∀ i, i < ys.length → ∃ tt, ys[i]? = some (.ref tt) ∧ SqT K H3 tt [.int (rl.getD i (0, 0, [])).1, .int (rl.getD i (0, 0, [])).2.1, .ref (ndf i)] ∧ H3 (ndf i) = some (.lst ((rl.getD i (0, 0, [])).2.2.map V.int)) ∧ rl.getD i (0, 0, []) ∈ rl := by
          refine ⟨fun i => if h : i < ys.length then (hat i h).choose_spec.choose else 0, fun i hi => ?_⟩
          have g := (hat i hi).choose_spec.choose_spec
          refine ⟨(hat i hi).choose, g.1, ?_, ?_, g.2.2.2.2⟩
          · show SqT K H3 _ [_, _, .ref (if h : i < ys.length then (hat i h).choose_spec.choose else 0)]
            rw [dif_pos hi]
            exact g.2.1
          · show H3 (if h : i < ys.length then (hat i h).choose_spec.choose else 0) = _
            rw [dif_pos hi]
            exact g.2.2.1
        refine fr_listT3 (xs := ys) (px := fun i => .int (rl.getD i (0, 0, [])).1) (py := fun i => .int (rl.getD i (0, 0, [])).2.1) (pz := fun i => .ref (ndf i)) rfl
          (fun i σ' H' => ∃ (x6 x7 x8 : Option V) (kv2 : List (Key × V)) (ks2 : List Int), σ' = [some (.ref a), some (.int u), some (.ref m), some (.ref D), some (.ref b), some (.int (ks1.length : Int)), x6, x7, x8, none, none] ∧ KpB D H3 H' ∧
            H' D = some (.dK kv2) ∧ KeysI kv2 ks2 ∧ Grow n (fun x => x ∈ ks) (rulesOf z u rs) ks2 ∧ ks1.length ≤ ks2.length ∧ (ks2.length = ks1.length → ∀ j, j < i → (∀ y ∈ (rl.getD j (0, 0, [])).2.2, y ∈ ks2) → (rl.getD j (0, 0, [])).2.1 ∈ ks2))
          ⟨_, _, _, kv1, ks1, rfl, kp, hD4, hk1, hg, Nat.le_refl _, fun _ j hj => absurd hj (Nat.not_lt_zero j)⟩ (fun i σ' H' _ ⟨_, _, _, _, _, _, k, _⟩ => SqL.of (k _ _ hDb hy)) (fun i σ' H5 hi hP => ?_) fun σ' H5 hP => ?_
        · obtain ⟨y6, y7, y8, kv2, ks2, rfl, kp5, hD5, hk2, hg2, hle, hcl⟩ := hP
          obtain ⟨tt, g1, g2, g3, g4⟩ := hndf i hi
          refine ⟨tt, g1, kp5.tup hD3 g2, ?_⟩
          refine rd_start (σ' := [some (.ref a), some (.int u), some (.ref m), some (.ref D), some (.ref b), some (.int (ks1.length : Int)), some (.int (rl.getD i (0, 0, [])).1), some (.int (rl.getD i (0, 0, [])).2.1), some (.ref (ndf i)), none, none]) rfl ?_
          have g5 : H5 (ndf i) = _ := kp5 _ _ (fun z => (by rw [z, hD3] at g3; cases g3)) g3
          have hcl2 : ∀ (j : Nat), ks2.length = ks1.length → j < i + 1 → ((∀ y ∈ (rl.getD i (0, 0, [])).2.2, y ∈ ks2) → (rl.getD i (0, 0, [])).2.1 ∈ ks2) → (∀ y ∈ (rl.getD j (0, 0, [])).2.2, y ∈ ks2) → (rl.getD j (0, 0, [])).2.1 ∈ ks2 := fun j e hj hi2 => by
            by_cases c : j < i
            · exact hcl e j c
            · have ej : j = i := by omega
              rw [ej]
              exact hi2
          obtain ⟨r, hr1, hr2, hr3, hr4, hr5, hr6⟩ := (hrl _ _).mp ⟨_, (show ((rl.getD i (0, 0, [])).1, (rl.getD i (0, 0, [])).2.1, (rl.getD i (0, 0, [])).2.2) ∈ rl from g4)⟩
          have hrule : rulesOf z u rs (rl.getD i (0, 0, [])).2.1 (rl.getD i (0, 0, [])).2.2 := ⟨r, hr1, hr2, hr3, hr4, hr5, hr6⟩
          have hnl : (rl.getD i (0, 0, [])).2.2.length ≤ 60 := by
            rw [hr6]
            exact Nat.le_trans (needI_length z r) (hrs r hr1).len
          have hhd : 1 ≤ (rl.getD i (0, 0, [])).2.1 ∧ (rl.getD i (0, 0, [])).2.1 ≤ (n : Int) := by
            have hpos : headF r ∈ r := (headF_mem r).resolve_left fun h => by omega
            have := (hrs r hr1).lit _ hpos
            omega
          clear g2 g3 g4 g1 hr2 hr3 hr4 hr5 hr6
          generalize (rl.getD i (0, 0, [])).2.1 = hd at hcl2 hrule hhd ⊢
          generalize (rl.getD i (0, 0, [])).2.2 = ns at hcl2 hrule hnl g5 ⊢
          generalize (rl.getD i (0, 0, [])).1 = pl
          walk_at "rds"
          obtain ⟨o1, hg1, ho1⟩ := dget_in (x := hd) hD5 hk2
          refine ⟨D, o1, rfl, hg1, ?_⟩
          rw [ho1]
          walk_at "rds"
          refine rd_iten (fun c2 => ?_) (fun c2 => ?_)
          · walk_at "rds"
            refine rd_refL (SqL.of g5) ?_
            refine lc_fmL (fun _ => true) (fun y => .bl (decide (y ∈ ks2))) (σx := fun y => [some (.ref a), some (.int u), some (.ref m), some (.ref D), some (.ref b), some (.int (ks1.length : Int)), some (.int pl), some (.int hd), some (.ref (ndf i)), none, some y]) (SqL.of g5) (by omega) (fun _ => rfl) (fun _ => rfl)
              (fun y hy H' N S e kN kS => ?_) fun D5 H6 e6 eD5 hD6 => ?_
            · walk_at "rds"
              obtain ⟨o2, hg2', ho2⟩ := dget_in (x := y) (e _ _ hD5) hk2
              refine ⟨D, o2, rfl, hg2', ?_⟩
              rw [ho2]
              exact kN rfl _ (Evl.Ex.refl _)
            rw [List.filter_eq_self.mpr fun _ _ => rfl] at hD6
            have e7 : ns.map (fun y => V.bl (decide (y ∈ ks2))) = (ns.map fun y => decide (y ∈ ks2)).map V.bl := by rw [List.map_map] <;> rfl
            rw [e7] at hD6
            walk_at "rds"
            refine rd_all (SqL.of hD6) ?_
            have hD7 := e6 _ _ hD5
            walk_at "rds"
            have hall : (ns.map fun y => decide (y ∈ ks2)).all id = true ↔ ∀ y ∈ ns, y ∈ ks2 := by
              rw [List.all_map, List.all_eq_true]
              exact ⟨fun h y hy => of_decide_eq_true (h y hy), fun h y hy => decide_eq_true (h y hy)⟩
            refine rd_iteb (fun c3 => ?_) (fun c3 => ?_)
            · have hin := hall.mp c3
              walk_at "rds"
              have hlen2 : kv2.length ≤ 60 := by
                rw [hk2.len]
                exact Nat.le_trans (nodup_le hg2.nd hg2.rng) hn
              refine ⟨D, _, rfl, DPut.k (k := Sum.inl hd) (v := .int pl) hD7 (by rw [sizeLine_eq]; omega), ?_⟩
              walk_at "rds"
              have hl2 : (putI ks2 hd).length = ks2.length + 1 := by
                unfold putI
                rw [if_neg c2, List.length_append, List.length_singleton]
              refine ⟨_, _, _, putK kv2 (Sum.inl hd) (.int pl), putI ks2 hd, rfl, (kp5.trans (KpB.ex e6)).trans KpB.upd, upd_same, hk2.put hd _, ⟨putI_nodup hg2.nd, fun x hx => ?_, fun x hx => ?_, fun x hx => putI_mem.mpr (.inl (hg2.sup x hx))⟩, by omega, fun e => by omega⟩
              · rcases putI_mem.mp hx with h | rfl
                · exact hg2.rng x h
                · exact hhd
              · rcases putI_mem.mp hx with h | rfl
                · exact hg2.sub x h
                · exact .step hrule fun y hy => hg2.sub y (hin y hy)
            · walk_at "rds"
              exact ⟨_, _, _, kv2, ks2, rfl, kp5.trans (KpB.ex e6), hD7, hk2, hg2, hle, fun e j hj => hcl2 j e hj fun hin => absurd (hall.mpr hin) (by rw [c3]; decide)⟩
          · walk_at "rds"
            exact ⟨_, _, _, kv2, ks2, rfl, kp5, hD5, hk2, hg2, hle, fun e j hj => hcl2 j e hj fun _ => c2⟩
        · obtain ⟨y6, y7, y8, kv2, ks2, rfl, kp5, hD5, hk2, hg2, hle, hcl⟩ := hP
          walk_at "rds"
          refine ⟨_, y6, y7, y8, kv2, ks2, rfl, kp5, hD5, hk2, hg2, rfl, by omega, ?_⟩
          by_cases c : ks2.length = ks1.length
          · refine .inr fun h ns hr hin => ?_
            obtain ⟨p, hp'⟩ := (hrl h ns).mpr hr
            obtain ⟨j, hj⟩ := List.getElem?_of_mem hp'
            have hjl := (List.getElem?_eq_some_iff.mp hj).1
            have e5 : rl.getD j (0, 0, []) = (p, h, ns) := by rw [List.getD_eq_getElem?_getD, hj] <;> rfl
            have := hcl c j (by omega)
            rw [e5] at this
            exact this hin
          · exact .inl (by omega)
    · walk_at "rds"
      have hcl := h3.resolve_left (by omega)
      refine q D kv1 ks1 H4 (fun b' o e => ?_) hD' hD4 hk1 hg.nd hg.rng fun x => ⟨hg.sub x, Cl.sub (p := fun x => x ∈ ks1) hg.sup (fun h ns hr hin => hcl h ns hr hin) x⟩
      exact kp b' o (fun z => (by rw [z, hD'] at e; cases e)) (e23 _ _ e)
end
end KA
set_option Elab.async false
set_option linter.all false
set_option maxRecDepth 100000
set_option maxHeartbeats 400000
set_option pp.maxSteps 300
namespace KA
open PySem PySem.Spec PyProof.Rows L2 Ea
abbrev smakers_at : Stmt := topS 13
theorem scmakers_at : FnScope ["sentence", "letter", "at_first", "made"] ["sentence", "letter", "at_first"] (defScope smakers_at) :=
  ⟨rfl, rfl, rfl, by decide +kernel, rfl, by decide +kernel, by decide +kernel⟩
abbrev syes_letters : Stmt := topS 14
theorem scyes_letters : FnScope ["sentence", "letter"] ["sentence", "letter"] (defScope syes_letters) :=
  ⟨rfl, rfl, rfl, by decide +kernel, rfl, by decide +kernel, by decide +kernel⟩
local macro_rules | `(tactic| walk_at "rd") => `(tactic| first
  | (with_reducible refine rd_seq ?_) | (with_reducible refine rd_asg ?_) | (with_reducible refine rd_if ?_) | (with_reducible refine rd_ret ?_) | (with_reducible refine rd_next ?_)
  | (with_reducible refine rd_drop ?_) | ((with_reducible refine rd_name (σ' := ?ss) ?hs ?_); (case hs => (dsimp only [List.set]; exact rfl)))
  | ((with_reducible refine rd_var (v := ?vv) ?hv ?_); (case hv => exact rfl)) | (with_reducible refine rd_c ?_) | (with_reducible refine rd_op ?_) | (with_reducible refine rd_un ?_)
  | (with_reducible refine rd_I0 ?_) | (with_reducible refine rd_U ?_) | (with_reducible refine rd_test ?_) | (with_reducible refine rd_B ?_) | (with_reducible refine rd_k ?_)
  | (with_reducible refine rd_not ?_) | (with_reducible refine rd_and ?_) | (with_reducible refine rd_or ?_) | (with_reducible refine rd_ifE ?_)
  | (with_reducible refine rd_par ?_) | ((with_reducible refine rd_par2 (σ' := ?ss) ?hs ?_); (case hs => (dsimp only [List.set]; exact rfl)))
  | (with_reducible refine rd_gsub ?_) | (with_reducible refine rd_andV ?_) | (with_reducible refine rd_orV ?_) | (with_reducible refine rd_notV ?_)
  | (with_reducible refine rd_lc ?_) | (with_reducible refine rd_iTup ?_) | (with_reducible refine rd_iList ?_) | (with_reducible refine rd_iRng1 ?_) | (with_reducible refine rd_iRng2 ?_) | (with_reducible refine rd_iEnumT ?_) | (with_reducible refine rd_iEnum ?_) | (with_reducible refine rd_iZipM ?_) | (with_reducible refine rd_iEnumS ?_) | (with_reducible refine rd_iKeys ?_) | (with_reducible refine rd_din ?_) | (with_reducible refine rd_dnotin ?_)
  | (with_reducible refine rd_yes ?_) | (with_reducible refine rd_true ?_) | (with_reducible refine rd_false ?_) | (with_reducible refine rd_m1 ?_) | (with_reducible refine rd_isS ?_)
  | ((with_reducible refine rd_eq ?hs ?_); (case hs => exact rfl)) | ((with_reducible refine rd_ne ?hs ?_); (case hs => exact rfl))
  | (with_reducible refine rd_listRg ?_) | (with_reducible refine rd_rg2 ?_) | (with_reducible refine rd_rgk ?_)
  | (with_reducible refine rd_dnew ?_) | (with_reducible refine rd_ddel ?_) | (with_reducible refine rd_kw ?_) | (with_reducible refine rd_callS ?_) | (with_reducible refine rd_dc ?_) | (with_reducible refine rd_for ?_) | (with_reducible refine rd_tru ?_) | (with_reducible refine rd_truI ?_)
  | (with_reducible refine rd_nil ?_) | (with_reducible refine rd_cons ?_) | (with_reducible refine rd_call ?_) | (with_reducible refine rd_cb ?_)
  | (with_reducible refine rd_tup ?_) | (with_reducible refine rd_lst ?_) | (with_reducible refine rd_dget ?_) | (with_reducible refine rd_dput ?_) | (with_reducible refine rd_dget2 ?_) | (with_reducible refine rd_sl ?_)
  | (with_reducible refine rd_nopart ?_) | (with_reducible refine rd_part ?_) | (with_reducible refine rd_parti ?_) | (with_reducible refine rd_bm ?_) | (with_reducible refine rd_bm0 ?_)
  | (with_reducible refine rd_int ?_) | (with_reducible refine rd_intb ?_) | (with_reducible refine rd_abs ?_) | (with_reducible refine rd_min2 ?_) | (with_reducible refine rd_max2 ?_))
local macro_rules | `(tactic| walk_at "rds") => `(tactic| repeat (walk_at "rd"))
local macro_rules | `(tactic| walk_at "rq") => `(tactic| first
  | (with_reducible refine rd_seq ?_) | (with_reducible refine rd_asg ?_) | (with_reducible refine rd_ret ?_) | (with_reducible refine rd_next ?_)
  | (with_reducible refine rd_drop ?_) | ((with_reducible refine rd_name (σ' := ?ss) ?hs ?_); (case hs => (dsimp only [List.set]; exact rfl)))
  | ((with_reducible refine rd_var (v := ?vv) ?hv ?_); (case hv => exact rfl)) | (with_reducible refine rd_c ?_) | (with_reducible refine rd_op ?_) | (with_reducible refine rd_un ?_)
  | (with_reducible refine rd_I0 ?_) | (with_reducible refine rd_U ?_) | (with_reducible refine rd_test ?_) | (with_reducible refine rd_B ?_) | (with_reducible refine rd_k ?_)
  | (with_reducible refine rd_not ?_) | (with_reducible refine rd_and ?_) | (with_reducible refine rd_or ?_) | (with_reducible refine rd_ifE ?_)
  | (with_reducible refine rd_par ?_) | ((with_reducible refine rd_par2 (σ' := ?ss) ?hs ?_); (case hs => (dsimp only [List.set]; exact rfl)))
  | (with_reducible refine rd_gsub ?_) | (with_reducible refine rd_andV ?_) | (with_reducible refine rd_orV ?_) | (with_reducible refine rd_notV ?_)
  | (with_reducible refine rd_lc ?_) | (with_reducible refine rd_iTup ?_) | (with_reducible refine rd_iList ?_) | (with_reducible refine rd_iRng1 ?_) | (with_reducible refine rd_iRng2 ?_) | (with_reducible refine rd_iEnumT ?_) | (with_reducible refine rd_iEnum ?_) | (with_reducible refine rd_iZipM ?_) | (with_reducible refine rd_iEnumS ?_) | (with_reducible refine rd_iKeys ?_) | (with_reducible refine rd_din ?_) | (with_reducible refine rd_dnotin ?_)
  | (with_reducible refine rd_yes ?_) | (with_reducible refine rd_true ?_) | (with_reducible refine rd_false ?_) | (with_reducible refine rd_m1 ?_) | (with_reducible refine rd_isS ?_)
  | ((with_reducible refine rd_eq ?hs ?_); (case hs => exact rfl)) | ((with_reducible refine rd_ne ?hs ?_); (case hs => exact rfl))
  | (with_reducible refine rd_listRg ?_) | (with_reducible refine rd_rg2 ?_) | (with_reducible refine rd_rgk ?_)
  | (with_reducible refine rd_dnew ?_) | (with_reducible refine rd_ddel ?_) | (with_reducible refine rd_kw ?_) | (with_reducible refine rd_callS ?_) | (with_reducible refine rd_dc ?_) | (with_reducible refine rd_for ?_) | (with_reducible refine rd_tru ?_) | (with_reducible refine rd_truI ?_)
  | (with_reducible refine rd_nil ?_) | (with_reducible refine rd_cons ?_) | (with_reducible refine rd_call ?_) | (with_reducible refine rd_cb ?_)
  | (with_reducible refine rd_tup ?_) | (with_reducible refine rd_lst ?_) | (with_reducible refine rd_dget ?_) | (with_reducible refine rd_dput ?_) | (with_reducible refine rd_dget2 ?_) | (with_reducible refine rd_sl ?_)
  | (with_reducible refine rd_nopart ?_) | (with_reducible refine rd_part ?_) | (with_reducible refine rd_parti ?_) | (with_reducible refine rd_bm ?_) | (with_reducible refine rd_bm0 ?_)
  | (with_reducible refine rd_int ?_) | (with_reducible refine rd_intb ?_) | (with_reducible refine rd_abs ?_) | (with_reducible refine rd_min2 ?_) | (with_reducible refine rd_max2 ?_))
local macro_rules | `(tactic| walk_at "rqs") => `(tactic| repeat (walk_at "rq"))
local macro_rules | `(tactic| walk_at "rv") => `(tactic| first
  | (with_reducible refine rd_seq ?_) | (with_reducible refine rd_asg ?_) | (with_reducible refine rd_ret ?_) | (with_reducible refine rd_next ?_)
  | (with_reducible refine rd_drop ?_) | ((with_reducible refine rd_name (σ' := ?ss) ?hs ?_); (case hs => (dsimp only [List.set]; exact rfl)))
  | ((with_reducible refine rd_var (v := ?vv) ?hv ?_); (case hv => exact rfl)) | (with_reducible refine rd_c ?_) | (with_reducible refine rd_op ?_) | (with_reducible refine rd_un ?_)
  | (with_reducible refine rd_I0 ?_) | (with_reducible refine rd_U ?_) | (with_reducible refine rd_test ?_) | (with_reducible refine rd_B ?_) | (with_reducible refine rd_k ?_)
  | (with_reducible refine rd_not ?_) | (with_reducible refine rd_and ?_) | (with_reducible refine rd_or ?_)
  | (with_reducible refine rd_par ?_) | ((with_reducible refine rd_par2 (σ' := ?ss) ?hs ?_); (case hs => (dsimp only [List.set]; exact rfl)))
  | (with_reducible refine rd_gsub ?_) | (with_reducible refine rd_andV ?_) | (with_reducible refine rd_orV ?_) | (with_reducible refine rd_notV ?_)
  | (with_reducible refine rd_lc ?_) | (with_reducible refine rd_iTup ?_) | (with_reducible refine rd_iList ?_) | (with_reducible refine rd_iRng1 ?_) | (with_reducible refine rd_iRng2 ?_) | (with_reducible refine rd_iEnumT ?_) | (with_reducible refine rd_iEnum ?_) | (with_reducible refine rd_iZipM ?_) | (with_reducible refine rd_iEnumS ?_) | (with_reducible refine rd_iKeys ?_) | (with_reducible refine rd_din ?_) | (with_reducible refine rd_dnotin ?_)
  | (with_reducible refine rd_yes ?_) | (with_reducible refine rd_true ?_) | (with_reducible refine rd_false ?_) | (with_reducible refine rd_m1 ?_) | (with_reducible refine rd_isS ?_)
  | ((with_reducible refine rd_eq ?hs ?_); (case hs => exact rfl)) | ((with_reducible refine rd_ne ?hs ?_); (case hs => exact rfl))
  | (with_reducible refine rd_listRg ?_) | (with_reducible refine rd_rg2 ?_) | (with_reducible refine rd_rgk ?_)
  | (with_reducible refine rd_dnew ?_) | (with_reducible refine rd_ddel ?_) | (with_reducible refine rd_kw ?_) | (with_reducible refine rd_callS ?_) | (with_reducible refine rd_dc ?_) | (with_reducible refine rd_for ?_) | (with_reducible refine rd_tru ?_) | (with_reducible refine rd_truI ?_)
  | (with_reducible refine rd_nil ?_) | (with_reducible refine rd_cons ?_) | (with_reducible refine rd_call ?_) | (with_reducible refine rd_cb ?_)
  | (with_reducible refine rd_tup ?_) | (with_reducible refine rd_lst ?_) | (with_reducible refine rd_dget ?_) | (with_reducible refine rd_dput ?_) | (with_reducible refine rd_dget2 ?_) | (with_reducible refine rd_sl ?_)
  | (with_reducible refine rd_nopart ?_) | (with_reducible refine rd_part ?_) | (with_reducible refine rd_parti ?_) | (with_reducible refine rd_bm ?_) | (with_reducible refine rd_bm0 ?_)
  | (with_reducible refine rd_int ?_) | (with_reducible refine rd_intb ?_) | (with_reducible refine rd_abs ?_) | (with_reducible refine rd_min2 ?_) | (with_reducible refine rd_max2 ?_))
local macro_rules | `(tactic| walk_at "rvs") => `(tactic| repeat (walk_at "rv"))

/-- the yes-letters at u -/
def Yes (z : Str) (rs : List (List Int)) (u : Int) : Int → Prop :=
  if u = 0 then Cl (fun _ => False) (rulesOf z 0 rs) else Cl (fun x => Cl (fun _ => False) (rulesOf z 0 rs) x ∧ x < u) (rulesOf z u rs)
theorem Cl.congr {S S' : Int → Prop} {R : Int → List Int → Prop} (h : ∀ x, S x ↔ S' x) (x : Int) : Cl S R x ↔ Cl S' R x :=
  ⟨Cl.sub (fun x hx => .base ((h x).mp hx)) (fun _ _ hr hi => .step hr hi) x, Cl.sub (fun x hx => .base ((h x).mpr hx)) (fun _ _ hr hi => .step hr hi) x⟩
theorem Yes.zero {z : Str} {rs : List (List Int)} {x : Int} : Yes z rs 0 x ↔ Cl (fun _ => False) (rulesOf z 0 rs) x := by
  unfold Yes
  rw [if_pos rfl]
theorem Yes.other {z : Str} {rs : List (List Int)} {u x : Int} (h : u ≠ 0) : Yes z rs u x ↔ Cl (fun x => Yes z rs 0 x ∧ x < u) (rulesOf z u rs) x := by
  rw [show Yes z rs u = _ from if_neg h]
  refine Cl.congr (fun y => ?_) x
  rw [Yes.zero]
section
variable {P : Program} {w : World} {K : PySem.W.Frag} {mg : Str → Option Value} {base : Heap}
def spMakers (K : PySem.W.Frag) : Sp := fun vs H Q _ => ∃ (a c m : Addr) (z : Str) (n : Nat) (rs : List (List Int)) (u : Int) (kvs : List (Key × V)) (ks : List Int), vs = [.ref a, .int u, .ref m] ∧ SentC K H n a c z rs ∧ 0 ≤ u ∧
  H m = some (.dK kvs) ∧ KeysI kvs ks ∧ ks.Nodup ∧ (∀ x ∈ ks, 1 ≤ x ∧ x ≤ (n : Int)) ∧ (∀ x, x ∈ ks ↔ Yes z rs 0 x) ∧
  ∀ (D : Addr) (kvs' : List (Key × V)) (ks' : List Int) (H' : Hp), Evl.Ex H H' → H' D = some (.dK kvs') → KeysI kvs' ks' → ks'.Nodup → (∀ x ∈ ks', 1 ≤ x ∧ x ≤ (n : Int)) → (∀ x, x ∈ ks' ↔ Yes z rs u x) → Q (.ref D) H'
theorem ok_makers {f fW : Addr} {fd fdW : FuncData} (F : Fun K "makers_at" "makers_at" smakers_at f fd) (T : Bl mg)
    (Gwith_further : FnOk P w K mg base CX0 4 fW fdW ["sentence", "letter", "makers"] (spFurther K)) (Cwith_further : Callee K mg "with_further" fW fdW ["sentence", "letter", "makers"]) :
    FnOk P w K mg base CX0 5 f fd ["sentence", "letter", "at_first"] (spMakers K) := by
  refine F.ok scmakers_at (fun vs H Q E h => ?_) (fun cdv A outer s H vs Q E hr h => ?_)
  · obtain ⟨a, c, m, z, n, rs, u, kvs, ks, rfl, _⟩ := h
    rfl
  · obtain ⟨a, c, m, z, n, rs, u, kvs, ks, rfl, hs, hu, hm, hk, hnd, hrng, hyes, q⟩ := h
    refine ⟨_, (pss_cons (ps_if (pt_cmpR op_eq (pv 1) pe_int (nomark _)) (pss_one (ps_ret (pv 2))) pss_nil)
 (pss_one (ps_ret (pe_call Gwith_further (hr.mono (by decide)) (by rfl) Cwith_further.m Cwith_further.k Cwith_further.b .nil pass0 (pa_cons (pv 0) (pa_cons (pv 1) (pa_cons (pe_lock (pe_dc (own := [("made", 3)]) (g := gName 3) rfl scmakers_at.nd (pi_keys (pv 2)) (blkOk_by (own := [("made", 3)]) (N := ["sentence", "letter", "at_first", "made"]) (sc := defScope smakers_at) (by decide +kernel)) (fun _ _ _ _ _ => (pg_name (i := 3) scmakers_at.nd rfl (Or.inl rfl))) (fun _ _ _ _ _ => (pts_one (pt_cmpR op_lt (pv 3) (pv 1) (nomark _)))) (fun _ _ _ _ _ => (pv 3)) (fun _ _ _ _ _ => (pe_dget (hu_of hr) (pv 2) (pv 3) (fun _ _ => rfl))))) pa_nil))))))), ?_⟩
    refine rd_start (σ' := [some (.ref a), some (.int u), some (.ref m), none]) rfl ?_
    obtain ⟨xs, _, _, _, hz, hn, hrs, _⟩ := id hs
    have kl : ks.length ≤ n := nodup_le hnd hrng
    walk_at "rds"
    refine rd_ite (fun c1 => ?_) (fun c1 => ?_)
    · have e0 : u = 0 := V.int.inj c1
      subst e0
      walk_at "rds"
      exact q m kvs ks H (Evl.Ex.refl _) hm hk hnd hrng hyes
    · have hu0 : u ≠ 0 := fun e => c1 (congrArg V.int e)
      walk_at "rds"
      refine rd_lockE ⟨m, .dK kvs, hm, True.intro, fun od => ?_⟩
      have hm1 : (upd H m (.frz od (.dK kvs))) m = some (.frz od (.dK kvs)) := upd_same
      walk_at "rds"
      refine ⟨m, od, rfl, .inl ⟨kvs, hm1, ?_⟩⟩
      refine dc_keys (fun x => decide (x < u)) hm1 hk (by omega) hnd (σx := fun x => [some (.ref a), some (.int u), some (.ref m), some x]) (fun _ => rfl) (fun _ => rfl)
        (fun x hx H' N S e kN kS => ?_) fun D kvs0 H1 e1 hD hD1 hk0 => ?_
      · walk_at "rds"
        refine rd_ite (fun c => ?_) (fun c => ?_)
        · walk_at "rds"
          obtain ⟨v, hv⟩ : ∃ v, valV kvs (Sum.inl x) = some v := Option.isSome_iff_exists.mp ((val_some hk).trans (decide_eq_true hx))
          exact ⟨m, v, rfl, .inl ⟨kvs, Sum.inl x, .inr ⟨od, e _ _ hm1⟩, rfl, hv.symm⟩, kN (decide_eq_true c) v _ (Evl.Ex.refl _)⟩
        · exact kS (decide_eq_false c) _ (Evl.Ex.refl _)
      refine ⟨e1 _ _ hm1, ?_⟩
      have hmD : m ≠ D := fun z => by
        rw [← z, hm1] at hD
        cases hD
      have e2 : Evl.Ex H (upd H1 m (.dK kvs)) := fun b o e => by
        by_cases hb : b = m
        · subst hb
          rw [hm] at e
          cases e
          exact upd_same
        · rw [upd_ne hb]
          exact e1 b o ((upd_ne hb).trans e)
      have hD2 : (upd H1 m (.dK kvs)) D = some (.dK kvs0) := (upd_ne hmD.symm).trans hD1
      refine ⟨a, c, D, z, n, rs, u, kvs0, _, rfl, hs.ex e2, hu, hD2, hk0, hnd.sublist List.filter_sublist, fun x hx => hrng x (List.mem_filter.mp hx).1, fun D' kvs' ks' H' e3 _ hD3 hk3 hnd3 hrng3 hcl => q D' kvs' ks' H' (e2.trans e3) hD3 hk3 hnd3 hrng3 fun x => ?_⟩
      rw [hcl, Yes.other hu0]
      refine Cl.congr (fun y => ?_) x
      rw [List.mem_filter, decide_eq_true_eq, hyes]
/-- a tuple of what a dict's keys are, sorted -/
structure YesT (n : Nat) (z : Str) (rs : List (List Int)) (u : Int) (ys : List Int) : Prop where
  lt : ys.Pairwise (· < ·)
  rng : ∀ x ∈ ys, 1 ≤ x ∧ x ≤ (n : Int)
  mem : ∀ x, x ∈ ys ↔ Yes z rs u x
theorem lt_ext {xs ys : List Int} (h1 : xs.Pairwise (· < ·)) (h2 : ys.Pairwise (· < ·)) (h : ∀ x, x ∈ xs ↔ x ∈ ys) : xs = ys := by
  refine List.Perm.eq_of_pairwise (fun a b _ _ q1 q2 => by omega) h1 h2 ?_
  exact (List.perm_ext_iff_of_nodup (nodup_of_lt h1) (nodup_of_lt h2)).mpr h
theorem YesT.eq {n : Nat} {z : Str} {rs : List (List Int)} {u : Int} {xs ys : List Int} (h1 : YesT n z rs u xs) (h2 : YesT n z rs u ys) : xs = ys := lt_ext h1.lt h2.lt fun x => (h1.mem x).trans (h2.mem x).symm
theorem YesT.of {n : Nat} {z : Str} {rs : List (List Int)} {u : Int} {ks ys : List Int} (hnd : ks.Nodup) (hrng : ∀ x ∈ ks, 1 ≤ x ∧ x ≤ (n : Int)) (hm : ∀ x, x ∈ ks ↔ Yes z rs u x) (pm : ys.Perm ks) (so : ys.Pairwise (· ≤ ·)) : YesT n z rs u ys :=
  ⟨lt_of_sorted so (pm.nodup_iff.mpr hnd), fun x hx => hrng x (pm.mem_iff.mp hx), fun x => pm.mem_iff.trans (hm x)⟩
theorem YesT.len {n : Nat} {z : Str} {rs : List (List Int)} {u : Int} {ys : List Int} (h : YesT n z rs u ys) : ys.length ≤ n := nodup_le (nodup_of_lt h.lt) h.rng
/-- where yes_letters raises nothing -/
def Asked (n : Nat) (z : Str) (rs : List (List Int)) (u : Int) : Prop := (∀ r ∈ rs, Horn r) ∧ (u = 0 ∨ u ∈ lettersI z "e" n)
def spYesL (K : PySem.W.Frag) (C : Addr) : Sp := fun vs H Q E => ∃ (a c : Addr) (z : Str) (n : Nat) (rs : List (List Int)) (u : Int), vs = [.ref a, .int u] ∧ SentC K H n a c z rs ∧
  (Asked n z rs u → ∀ (q : Addr) (ys : List Int) (H' : Hp), Evl.Ex H H' → YesT n z rs u ys → SqT K H' q (ys.map V.int) → Q (.ref q) H') ∧ (¬ Asked n z rs u → ∀ H', Evl.Ex H H' → E (.ref C) none H')
theorem ok_yesl {f C fK fL fM fW : Addr} {fd fdK fdL fdM fdW : FuncData} (F : Fun K "yes_letters" "yes_letters" syes_letters f fd) (T : Bl mg) (UUnfit : ExcF K mg "Unfit" C)
    (Gcheck_horn : FnOk P w K mg base (L2.CX P w) 2 fK fdK ["sentence"] (spCheck K C)) (Ccheck_horn : Callee K mg "check_horn" fK fdK ["sentence"])
    (Gletters_of : FnOk P w K mg base CX0 1 fL fdL ["sentence", "owner"] (spLetters K)) (Cletters_of : Callee K mg "letters_of" fL fdL ["sentence", "owner"])
    (Gmakers_at : FnOk P w K mg base CX0 5 fM fdM ["sentence", "letter", "at_first"] (spMakers K)) (Cmakers_at : Callee K mg "makers_at" fM fdM ["sentence", "letter", "at_first"])
    (Gwith_further : FnOk P w K mg base CX0 4 fW fdW ["sentence", "letter", "makers"] (spFurther K)) (Cwith_further : Callee K mg "with_further" fW fdW ["sentence", "letter", "makers"]) :
    FnOk P w K mg base (L2.CX P w) 6 f fd ["sentence", "letter"] (spYesL K C) := by
  refine F.okX scyes_letters (fun vs H Q E h => ?_) (fun cdv A outer s H vs Q E hr h => ?_)
  · obtain ⟨a, c, z, n, rs, u, rfl, _⟩ := h
    rfl
  · obtain ⟨a, c, z, n, rs, u, rfl, hs, q1, q2⟩ := h
    refine ⟨_, (pss_cons (ps_expr (pe_callS Gcheck_horn (hr.mono (by decide)) (by rfl) Ccheck_horn.m Ccheck_horn.k Ccheck_horn.b (fun σ => passAt (takes_of rfl rfl rfl rfl) σ) (pa_cons (pv 0) pa_nil)))
 (pss_cons (ps_if (PW.pt (pw_and (pt_cmpR op_ne (pv 1) pe_int (nomark _)) (pw_and1 (pt_cmpR (ok_notIn (K := K) rfl) (pv 1) (pe_call Gletters_of (hr.mono (by decide)) (by rfl) Cletters_of.m Cletters_of.k Cletters_of.b .nil pass0 (pa_cons (pv 0) (pa_cons pe_str pa_nil))) (by rfl))))) (pss_one (ps_raise rfl (takes_of rfl rfl rfl rfl) (pmk_own0 PySem.F.excBase_ValueError UUnfit.x UUnfit.g UUnfit.k (raises_own UUnfit.b UUnfit.t) rfl))) pss_nil)
 (pss_one (ps_ret (pe_callTy (c_tuple (K := K) rfl) (by rfl) T.tuple (by decide +kernel) (pa_cons (pe_callB (c_sortedD rfl) (by rfl) T.sorted (by decide +kernel) (pa_cons (pe_call Gmakers_at (hr.mono (by decide)) (by rfl) Cmakers_at.m Cmakers_at.k Cmakers_at.b .nil pass0 (pa_cons (pv 0) (pa_cons (pv 1) (pa_cons (pe_call Gwith_further (hr.mono (by decide)) (by rfl) Cwith_further.m Cwith_further.k Cwith_further.b .nil pass0 (pa_cons (pv 0) (pa_cons pe_int (pa_cons pe_dnewK pa_nil)))) pa_nil)))) pa_nil)) pa_nil)))))), ?_⟩
    refine rd_start (σ' := [some (.ref a), some (.int u)]) rfl ?_
    obtain ⟨xs, ha, _, _, hz, hn, hrs, _⟩ := id hs
    walk_at "rds"
    refine ⟨a, c, z, n, rs, rfl, hs, fun hH H1 e1 => ?_, fun hno H1 e1 => q2 (fun q => by obtain ⟨r, hr1, hr2⟩ := hno; exact hr2 (q.1 r hr1)) H1 e1⟩
    have hs1 := hs.ex e1
    walk_at "rqs"
    refine rd_ifI (fun σ' H2 => σ' = [some (.ref a), some (.int u)] ∧ Evl.Ex H1 H2 ∧ (u = 0 ∨ u ∈ lettersI z "e" n)) (fun N kN => ?_) fun σ' H2 hI => ?_
    · walk_at "rds"
      refine rd_iten (fun c1 => ?_) (fun c1 => ?_)
      · walk_at "rds"
        refine ⟨a, c, z, "e", n, rfl, Evl.ex_t e1 ha, hz, hn, fun b H2 e2 hb hb2 => ?_⟩
        walk_at "rds"
        refine rd_notInL (SqL.of hb2) ?_
        walk_at "rds"
        refine rd_iten (fun c2 => ?_) (fun c2 => ?_)
        · exact q2 (fun q => q.2.elim (fun e => c1 (congrArg V.int e)) c2) _ (e1.trans e2)
        · walk_at "rds"
          exact kN _ _ ⟨rfl, e2, .inr c2⟩
      · walk_at "rds"
        exact kN _ _ ⟨rfl, Evl.Ex.refl _, .inl (V.int.inj c1)⟩
    obtain ⟨rfl, e2, hor⟩ := hI
    have hu : 0 ≤ u := hor.elim (fun e => by omega) fun h => by have := (lettersI_mem.mp h).1; omega
    have e12 := e1.trans e2
    walk_at "rds"
    intro m hm
    have e3 := Evl.Ex.new (o := .dK []) hm
    refine ⟨a, c, m, z, n, rs, 0, [], [], rfl, (hs.ex e12).ex e3, by decide, upd_same, rfl, List.nodup_nil, nofun, fun D kvs ks H3 e4 hD hD3 hk hnd hrng hcl => ?_⟩
    have hyes : ∀ x, x ∈ ks ↔ Yes z rs 0 x := fun x => by
      rw [hcl, Yes.zero]
      exact Cl.congr (fun y => ⟨fun h => (nomatch h), fun h => h.elim⟩) x
    have e14 := (e12.trans e3).trans e4
    walk_at "rds"
    refine ⟨a, c, D, z, n, rs, u, kvs, ks, rfl, hs.ex e14, hu, hD3, hk, hnd, hrng, hyes, fun D' kvs' ks' H4 e5 hD4 hk4 hnd4 hrng4 hy4 => ?_⟩
    walk_at "rds"
    have hl4 := nodup_le hnd4 hrng4
    refine rd_sortD hD4 hk4 (by omega) fun ys p pm so hp => ?_
    have e6 := Evl.Ex.new (o := .lst (ys.map V.int)) hp
    walk_at "rds"
    refine rd_tupL (SqL.of upd_same) fun o ho => ?_
    exact q1 ⟨hH, hor⟩ o ys _ (((e14.trans e5).trans e6).trans (Evl.Ex.new ho)) (YesT.of hnd4 hrng4 hy4 pm so) (SqT.of upd_same)
end
end KA
set_option Elab.async false
set_option linter.all false
set_option maxRecDepth 100000
set_option maxHeartbeats 400000
set_option pp.maxSteps 300
namespace KA
open PySem PySem.Spec PyProof.Rows L2 Ea
abbrev s_law_yes : Stmt := topS 23
theorem sc_law_yes : FnScope ["owners", "clauses", "u", "known", "x", "rules", "own", "heads", "many", "needs", "y"] ["owners", "clauses", "u"] (defScope s_law_yes) :=
  ⟨rfl, rfl, rfl, by decide +kernel, rfl, by decide +kernel, by decide +kernel⟩
local macro_rules | `(tactic| walk_at "rd") => `(tactic| first
  | (with_reducible refine rd_seq ?_) | (with_reducible refine rd_asg ?_) | (with_reducible refine rd_if ?_) | (with_reducible refine rd_ret ?_) | (with_reducible refine rd_next ?_)
  | (with_reducible refine rd_drop ?_) | ((with_reducible refine rd_name (σ' := ?ss) ?hs ?_); (case hs => (dsimp only [List.set]; exact rfl)))
  | ((with_reducible refine rd_var (v := ?vv) ?hv ?_); (case hv => exact rfl)) | (with_reducible refine rd_c ?_) | (with_reducible refine rd_op ?_) | (with_reducible refine rd_un ?_)
  | (with_reducible refine rd_I0 ?_) | (with_reducible refine rd_U ?_) | (with_reducible refine rd_test ?_) | (with_reducible refine rd_B ?_) | (with_reducible refine rd_k ?_)
  | (with_reducible refine rd_not ?_) | (with_reducible refine rd_and ?_) | (with_reducible refine rd_or ?_) | (with_reducible refine rd_ifE ?_)
  | (with_reducible refine rd_par ?_) | ((with_reducible refine rd_par2 (σ' := ?ss) ?hs ?_); (case hs => (dsimp only [List.set]; exact rfl)))
  | (with_reducible refine rd_gsub ?_) | (with_reducible refine rd_andV ?_) | (with_reducible refine rd_orV ?_) | (with_reducible refine rd_notV ?_)
  | (with_reducible refine rd_lc ?_) | (with_reducible refine rd_iTup ?_) | (with_reducible refine rd_iList ?_) | (with_reducible refine rd_iRng1 ?_) | (with_reducible refine rd_iRng2 ?_) | (with_reducible refine rd_iEnumT ?_) | (with_reducible refine rd_iEnum ?_) | (with_reducible refine rd_iZipM ?_) | (with_reducible refine rd_iEnumS ?_) | (with_reducible refine rd_iKeys ?_) | (with_reducible refine rd_din ?_) | (with_reducible refine rd_dnotin ?_)
  | (with_reducible refine rd_yes ?_) | (with_reducible refine rd_true ?_) | (with_reducible refine rd_false ?_) | (with_reducible refine rd_m1 ?_) | (with_reducible refine rd_isS ?_)
  | ((with_reducible refine rd_eq ?hs ?_); (case hs => exact rfl)) | ((with_reducible refine rd_ne ?hs ?_); (case hs => exact rfl))
  | (with_reducible refine rd_listRg ?_) | (with_reducible refine rd_rg2 ?_) | (with_reducible refine rd_rgk ?_)
  | (with_reducible refine rd_dnew ?_) | (with_reducible refine rd_ddel ?_) | (with_reducible refine rd_kw ?_) | (with_reducible refine rd_callS ?_) | (with_reducible refine rd_dc ?_) | (with_reducible refine rd_for ?_) | (with_reducible refine rd_tru ?_) | (with_reducible refine rd_truI ?_)
  | (with_reducible refine rd_nil ?_) | (with_reducible refine rd_cons ?_) | (with_reducible refine rd_call ?_) | (with_reducible refine rd_cb ?_)
  | (with_reducible refine rd_tup ?_) | (with_reducible refine rd_lst ?_) | (with_reducible refine rd_dget ?_) | (with_reducible refine rd_dput ?_) | (with_reducible refine rd_dget2 ?_) | (with_reducible refine rd_sl ?_)
  | (with_reducible refine rd_nopart ?_) | (with_reducible refine rd_part ?_) | (with_reducible refine rd_parti ?_) | (with_reducible refine rd_bm ?_) | (with_reducible refine rd_bm0 ?_)
  | (with_reducible refine rd_int ?_) | (with_reducible refine rd_intb ?_) | (with_reducible refine rd_abs ?_) | (with_reducible refine rd_min2 ?_) | (with_reducible refine rd_max2 ?_))
local macro_rules | `(tactic| walk_at "rds") => `(tactic| repeat (walk_at "rd"))
local macro_rules | `(tactic| walk_at "rq") => `(tactic| first
  | (with_reducible refine rd_seq ?_) | (with_reducible refine rd_asg ?_) | (with_reducible refine rd_ret ?_) | (with_reducible refine rd_next ?_)
  | (with_reducible refine rd_drop ?_) | ((with_reducible refine rd_name (σ' := ?ss) ?hs ?_); (case hs => (dsimp only [List.set]; exact rfl)))
  | ((with_reducible refine rd_var (v := ?vv) ?hv ?_); (case hv => exact rfl)) | (with_reducible refine rd_c ?_) | (with_reducible refine rd_op ?_) | (with_reducible refine rd_un ?_)
  | (with_reducible refine rd_I0 ?_) | (with_reducible refine rd_U ?_) | (with_reducible refine rd_test ?_) | (with_reducible refine rd_B ?_) | (with_reducible refine rd_k ?_)
  | (with_reducible refine rd_not ?_) | (with_reducible refine rd_and ?_) | (with_reducible refine rd_or ?_) | (with_reducible refine rd_ifE ?_)
  | (with_reducible refine rd_par ?_) | ((with_reducible refine rd_par2 (σ' := ?ss) ?hs ?_); (case hs => (dsimp only [List.set]; exact rfl)))
  | (with_reducible refine rd_gsub ?_) | (with_reducible refine rd_andV ?_) | (with_reducible refine rd_orV ?_) | (with_reducible refine rd_notV ?_)
  | (with_reducible refine rd_lc ?_) | (with_reducible refine rd_iTup ?_) | (with_reducible refine rd_iList ?_) | (with_reducible refine rd_iRng1 ?_) | (with_reducible refine rd_iRng2 ?_) | (with_reducible refine rd_iEnumT ?_) | (with_reducible refine rd_iEnum ?_) | (with_reducible refine rd_iZipM ?_) | (with_reducible refine rd_iEnumS ?_) | (with_reducible refine rd_iKeys ?_) | (with_reducible refine rd_din ?_) | (with_reducible refine rd_dnotin ?_)
  | (with_reducible refine rd_yes ?_) | (with_reducible refine rd_true ?_) | (with_reducible refine rd_false ?_) | (with_reducible refine rd_m1 ?_) | (with_reducible refine rd_isS ?_)
  | ((with_reducible refine rd_eq ?hs ?_); (case hs => exact rfl)) | ((with_reducible refine rd_ne ?hs ?_); (case hs => exact rfl))
  | (with_reducible refine rd_listRg ?_) | (with_reducible refine rd_rg2 ?_) | (with_reducible refine rd_rgk ?_)
  | (with_reducible refine rd_dnew ?_) | (with_reducible refine rd_ddel ?_) | (with_reducible refine rd_kw ?_) | (with_reducible refine rd_callS ?_) | (with_reducible refine rd_dc ?_) | (with_reducible refine rd_for ?_) | (with_reducible refine rd_tru ?_) | (with_reducible refine rd_truI ?_)
  | (with_reducible refine rd_nil ?_) | (with_reducible refine rd_cons ?_) | (with_reducible refine rd_call ?_) | (with_reducible refine rd_cb ?_)
  | (with_reducible refine rd_tup ?_) | (with_reducible refine rd_lst ?_) | (with_reducible refine rd_dget ?_) | (with_reducible refine rd_dput ?_) | (with_reducible refine rd_dget2 ?_) | (with_reducible refine rd_sl ?_)
  | (with_reducible refine rd_nopart ?_) | (with_reducible refine rd_part ?_) | (with_reducible refine rd_parti ?_) | (with_reducible refine rd_bm ?_) | (with_reducible refine rd_bm0 ?_)
  | (with_reducible refine rd_int ?_) | (with_reducible refine rd_intb ?_) | (with_reducible refine rd_abs ?_) | (with_reducible refine rd_min2 ?_) | (with_reducible refine rd_max2 ?_))
local macro_rules | `(tactic| walk_at "rqs") => `(tactic| repeat (walk_at "rq"))
local macro_rules | `(tactic| walk_at "rv") => `(tactic| first
  | (with_reducible refine rd_seq ?_) | (with_reducible refine rd_asg ?_) | (with_reducible refine rd_ret ?_) | (with_reducible refine rd_next ?_)
  | (with_reducible refine rd_drop ?_) | ((with_reducible refine rd_name (σ' := ?ss) ?hs ?_); (case hs => (dsimp only [List.set]; exact rfl)))
  | ((with_reducible refine rd_var (v := ?vv) ?hv ?_); (case hv => exact rfl)) | (with_reducible refine rd_c ?_) | (with_reducible refine rd_op ?_) | (with_reducible refine rd_un ?_)
  | (with_reducible refine rd_I0 ?_) | (with_reducible refine rd_U ?_) | (with_reducible refine rd_test ?_) | (with_reducible refine rd_B ?_) | (with_reducible refine rd_k ?_)
  | (with_reducible refine rd_not ?_) | (with_reducible refine rd_and ?_) | (with_reducible refine rd_or ?_)
  | (with_reducible refine rd_par ?_) | ((with_reducible refine rd_par2 (σ' := ?ss) ?hs ?_); (case hs => (dsimp only [List.set]; exact rfl)))
  | (with_reducible refine rd_gsub ?_) | (with_reducible refine rd_andV ?_) | (with_reducible refine rd_orV ?_) | (with_reducible refine rd_notV ?_)
  | (with_reducible refine rd_lc ?_) | (with_reducible refine rd_iTup ?_) | (with_reducible refine rd_iList ?_) | (with_reducible refine rd_iRng1 ?_) | (with_reducible refine rd_iRng2 ?_) | (with_reducible refine rd_iEnumT ?_) | (with_reducible refine rd_iEnum ?_) | (with_reducible refine rd_iZipM ?_) | (with_reducible refine rd_iEnumS ?_) | (with_reducible refine rd_iKeys ?_) | (with_reducible refine rd_din ?_) | (with_reducible refine rd_dnotin ?_)
  | (with_reducible refine rd_yes ?_) | (with_reducible refine rd_true ?_) | (with_reducible refine rd_false ?_) | (with_reducible refine rd_m1 ?_) | (with_reducible refine rd_isS ?_)
  | ((with_reducible refine rd_eq ?hs ?_); (case hs => exact rfl)) | ((with_reducible refine rd_ne ?hs ?_); (case hs => exact rfl))
  | (with_reducible refine rd_listRg ?_) | (with_reducible refine rd_rg2 ?_) | (with_reducible refine rd_rgk ?_)
  | (with_reducible refine rd_dnew ?_) | (with_reducible refine rd_ddel ?_) | (with_reducible refine rd_kw ?_) | (with_reducible refine rd_callS ?_) | (with_reducible refine rd_dc ?_) | (with_reducible refine rd_for ?_) | (with_reducible refine rd_tru ?_) | (with_reducible refine rd_truI ?_)
  | (with_reducible refine rd_nil ?_) | (with_reducible refine rd_cons ?_) | (with_reducible refine rd_call ?_) | (with_reducible refine rd_cb ?_)
  | (with_reducible refine rd_tup ?_) | (with_reducible refine rd_lst ?_) | (with_reducible refine rd_dget ?_) | (with_reducible refine rd_dput ?_) | (with_reducible refine rd_dget2 ?_) | (with_reducible refine rd_sl ?_)
  | (with_reducible refine rd_nopart ?_) | (with_reducible refine rd_part ?_) | (with_reducible refine rd_parti ?_) | (with_reducible refine rd_bm ?_) | (with_reducible refine rd_bm0 ?_)
  | (with_reducible refine rd_int ?_) | (with_reducible refine rd_intb ?_) | (with_reducible refine rd_abs ?_) | (with_reducible refine rd_min2 ?_) | (with_reducible refine rd_max2 ?_))
local macro_rules | `(tactic| walk_at "rvs") => `(tactic| repeat (walk_at "rv"))

theorem pos_none {r : List Int} (h : posI r = []) : headF r = 0 := by
  rcases headF_mem r with q | q
  · exact q
  · have h0 := (headF_ge r).1
    by_cases c : headF r = 0
    · exact c
    · have : headF r ∈ posI r := List.mem_filter.mpr ⟨q, decide_eq_true (by omega)⟩
      rw [h] at this
      cases this
theorem pos_one {r : List Int} {x : Int} (h : posI r = [x]) : headF r = x ∧ 0 < x ∧ x ∈ r := by
  have hx : x ∈ posI r := h ▸ List.mem_cons_self
  obtain ⟨h1, h2⟩ := List.mem_filter.mp hx
  have h2 := of_decide_eq_true h2
  refine ⟨(headF_eq (.inr h1) (by omega) fun y hy => ?_).symm, h2, h1⟩
  by_cases c : 0 < y
  · have : y ∈ posI r := List.mem_filter.mpr ⟨hy, decide_eq_true c⟩
    rw [h] at this
    rw [List.mem_singleton.mp this]
    omega
  · omega
abbrev Tw := Int × List Int
def RuleW (K : PySem.W.Frag) (H : Hp) (b : Addr) (v : V) (t : Tw) : Prop := ∃ tt nd, v = .ref tt ∧ SqT K H tt [.int t.1, .ref nd] ∧ H nd = some (.lst (t.2.map V.int)) ∧ nd ≠ b
theorem RuleW.ex {K : PySem.W.Frag} {H H' : Hp} {b : Addr} {v : V} {t : Tw} (e : Evl.Ex H H') (h : RuleW K H b v t) : RuleW K H' b v t := by
  obtain ⟨tt, nd, h1, h2, h3, h4⟩ := h
  exact ⟨tt, nd, h1, Evl.ex_t e h2, e _ _ h3, h4⟩
theorem RuleW.upd {K : PySem.W.Frag} {H : Hp} {b : Addr} {v : V} {t : Tw} {ys : List V} {o : HO} (hb : H b = some (.lst ys)) (h : RuleW K H b v t) : RuleW K (upd H b o) b v t := by
  obtain ⟨tt, nd, h1, h2, h3, h4⟩ := h
  exact ⟨tt, nd, h1, tup_upd hb lst_not h2, (upd_ne h4).trans h3, h4⟩
theorem ones_none (r ks : List Int) : PyData.eqv (.list (dI ((r.filter fun y => !decide (y ∈ ks)).map fun _ => 1))) (.list []) = r.all fun y => decide (y ∈ ks) := by
  induction r with
  | nil => rfl
  | cons y t ih =>
    rw [List.all_cons]
    by_cases c : y ∈ ks
    · rw [List.filter_cons_of_neg (by rw [decide_eq_true c]; decide), decide_eq_true c, Bool.true_and]
      exact ih
    · rw [List.filter_cons_of_pos (by rw [decide_eq_false c]; rfl), decide_eq_false c, Bool.false_and]
      rfl
section
variable {P : Program} {w : World} {K : PySem.W.Frag} {mg : Str → Option Value} {base : Heap}
def spYes (K : PySem.W.Frag) (m : Nat) : Sp := fun vs H Q _ => ∃ (c : Addr) (z : Str) (n : Nat) (xs : List V) (rs : List (List Int)) (u : Int), vs = [.str z, .ref c, .int u] ∧ SqT K H c xs ∧ DpAll K H xs (rs.map dR) ∧ OwnS n z ∧ n ≤ 60 ∧ (∀ r ∈ rs, Cls n r) ∧ (∀ r ∈ rs, Horn r) ∧ rs.length ≤ 1000 ∧
  0 ≤ u ∧ u ≤ 1000 ∧ m ≠ 0 ∧ (m = 1 → u = 0) ∧ ∀ (q : Addr) (ys : List Int) (H' : Hp), Evl.Ex H H' → YesT n z rs u ys → H q = none → H' q = some (.lst (ys.map V.int)) → Q (.ref q) H'
theorem ok_yes1 {f : Addr} {fd : FuncData} (F : Fun K "_law_yes" "_law_yes" s_law_yes f fd) (T : Bl mg) {m k : Nat}
    (G_law_yes : FnOk P w K mg base CX0 k f fd ["owners", "clauses", "u"] (spYes K m)) (C_law_yes : Callee K mg "_law_yes" f fd ["owners", "clauses", "u"]) :
    FnOk P w K mg base CX0 (k + 1) f fd ["owners", "clauses", "u"] (spYes K (m + 1)) := by
  refine F.ok sc_law_yes (fun vs H Q E h => ?_) (fun cdv A outer s H vs Q E hr h => ?_)
  · obtain ⟨c, z, n, xs, rs, u, rfl, _⟩ := h
    rfl
  · obtain ⟨c, z, n, xs, rs, u, rfl, hc, hd, hz, hn, hrs, hH, hl, hu, hu2, _, hm1, q⟩ := h
    refine ⟨_, (pss_cons (ps_set (i := 3) sc_law_yes.nd rfl (Or.inr rfl) pe_dnewK)
 (pss_cons (ps_for PassesOwn.never rfl (ik_listI (K := K) rfl (pe_ifExp (pt_cmpR op_gt (pv 2) pe_int (nomark _)) (pe_call G_law_yes hr (by rfl) C_law_yes.m C_law_yes.k C_law_yes.b .nil pass0 (pa_cons (pv 0) (pa_cons (pv 1) (pa_cons pe_int pa_nil)))) (pe_lst pa_nil))) (pg_name (i := 4) sc_law_yes.nd rfl (Or.inl rfl)) (pss_one (ps_if (pt_cmpR op_lt (pv 4) (pv 2) (nomark _)) (pss_one (ps_dput (hu_of hr) (pv 3) (pv 4) pe_bl rfl)) pss_nil)))
 (pss_cons (ps_set (i := 5) sc_law_yes.nd rfl (Or.inl rfl) (pe_lst pa_nil))
 (pss_cons (ps_for PassesOwn.never rfl (ik_tupI (K := K) rfl (pv 1)) (pg_name (i := 6) sc_law_yes.nd rfl (Or.inl rfl)) (pss_cons (ps_setLc (i := 7) (own := [("x", 4)]) (g := gName 4) rfl sc_law_yes.nd rfl rfl (sw_true rfl rfl rfl (by decide +kernel)) (ik_tupI (K := K) rfl (pv 6)) (blkOk_by (own := [("x", 4)]) (N := ["owners", "clauses", "u", "known", "x", "rules", "own", "heads", "many", "needs", "y"]) (sc := defScope s_law_yes) (by decide +kernel)) (fun _ _ _ _ _ => (pg_name (i := 4) sc_law_yes.nd rfl (Or.inl rfl))) (fun _ _ _ _ _ => (pts_one (pt_cmpR op_gt (pv 4) pe_int (nomark _)))) (fun _ _ _ _ _ => (pv 4)))
 (pss_one (ps_if (PW.pt (pw_and (pt_cmpR op_eq (pe_callB (c_len (K := K) rfl) (by rfl) T.len (by decide +kernel) (pa_cons (pv 7) pa_nil)) pe_int (nomark _)) (pw_and (pt_cmpR op_gt (pe_ix (ik_list (K := K) rfl) (pv 7) pe_int (fun _ _ => rfl)) (pv 2) (nomark _)) (pw_and (pt_cmpR op_eq (pe_ix ix_str (pv 0) (pe_op op_sub (pe_ix (ik_list (K := K) rfl) (pv 7) pe_int (fun _ _ => rfl)) pe_int) (fun _ _ => rfl)) pe_str (nomark _)) (pw_and1 (pt_cmpR (ok_notIn (K := K) rfl) (pe_un un_neg (pv 2)) (pv 6) (by rfl))))))) (pss_one (ps_expr (pe_bm PySem.F.plainAttrs_list PySem.F.slot_list_append PySem.F.type_list_append mt_append (pv 5) (pa_cons (pe_tup (pa_cons (pe_ix (ik_list (K := K) rfl) (pv 7) pe_int (fun _ _ => rfl)) (pa_cons (pe_lc (own := [("x", 4)]) (g := gName 4) rfl sc_law_yes.nd (ik_tupI (K := K) rfl (pv 6)) (blkOk_by (own := [("x", 4)]) (N := ["owners", "clauses", "u", "known", "x", "rules", "own", "heads", "many", "needs", "y"]) (sc := defScope s_law_yes) (by decide +kernel)) (fun _ _ _ _ _ => (pg_name (i := 4) sc_law_yes.nd rfl (Or.inl rfl))) (fun _ _ _ _ _ => (pts_one (PW.pt (pw_and (pt_cmpR op_lt (pv 4) pe_int (nomark _)) (pw_and1 (pt_cmpR op_eq (pe_ix ix_str (pv 0) (pe_op op_sub (pe_un un_neg (pv 4)) pe_int) (fun _ _ => rfl)) pe_str (nomark _))))))) (fun _ _ _ _ _ => (pe_un un_neg (pv 4)))) pa_nil))) pa_nil)))) pss_nil))))
 (pss_cons (ps_set (i := 8) sc_law_yes.nd rfl (Or.inl rfl) (pe_un un_neg pe_int))
 (pss_cons (ps_while PassesOwn.never (pt_cmpR op_lt (pv 8) (pe_callB call_lenD (by rfl) T.len (by decide +kernel) (pa_cons (pv 3) pa_nil)) (nomark _)) (pss_cons (ps_set (i := 8) sc_law_yes.nd rfl (Or.inl rfl) (pe_callB call_lenD (by rfl) T.len (by decide +kernel) (pa_cons (pv 3) pa_nil)))
 (pss_one (ps_for PassesOwn.never rfl (ik_listI (K := K) rfl (pv 5)) (pgk_tup (K := K) rfl rfl (pgs_cons (pg_name (i := 4) sc_law_yes.nd rfl (Or.inl rfl)) (pgs_cons (pg_name (i := 9) sc_law_yes.nd rfl (Or.inl rfl)) pgs_nil))) (pss_one (ps_if (pt_cmpR (ok_eqD (K := K) rfl hr.units) (pe_lc (own := [("y", 10)]) (g := gName 10) rfl sc_law_yes.nd (ik_listI (K := K) rfl (pv 9)) (blkOk_by (own := [("y", 10)]) (N := ["owners", "clauses", "u", "known", "x", "rules", "own", "heads", "many", "needs", "y"]) (sc := defScope s_law_yes) (by decide +kernel)) (fun _ _ _ _ _ => (pg_name (i := 10) sc_law_yes.nd rfl (Or.inl rfl))) (fun _ _ _ _ _ => (pts_one (pt_cmp (pc_dnotin (hu_of hr) (pv 10) (pv 3))))) (fun _ _ _ _ _ => pe_int)) (pe_lst pa_nil) (nomark _)) (pss_one (ps_dput (hu_of hr) (pv 3) (pv 4) pe_bl rfl)) pss_nil))))))
 (pss_one (ps_ret (pe_callB (c_sorted (K := K) rfl) (by rfl) T.sorted (by decide +kernel) (pa_cons (pe_callTy (c_listD rfl) (by rfl) T.list (by decide +kernel) (pa_cons (pv 3) pa_nil)) pa_nil)))))))))), ?_⟩
    refine rd_start (σ' := [some (.str z), some (.ref c), some (.int u), none, none, none, none, none, none, none, none]) rfl ?_
    have lx : xs.length = rs.length := by rw [dpAll_len hd, List.length_map]
    walk_at "rvs"
    intro D hD
    have e1 := Evl.Ex.new (o := .dK []) hD
    have hD1 : (upd H D (.dK [])) D = some (.dK []) := upd_same
    walk_at "rvs"
    refine rd_ifV (fun v H' => ∃ (q1 : Addr) (ys : List Int), v = .ref q1 ∧ Evl.Ex (upd H D (.dK [])) H' ∧ H' q1 = some (.lst (ys.map V.int)) ∧ ys.length ≤ 60 ∧ (∀ x ∈ ys, 1 ≤ x ∧ x ≤ (n : Int)) ∧ ∀ x, x ∈ ys ↔ (u ≠ 0 ∧ Yes z rs 0 x)) (fun N kN => ?_) fun v H2 hv => ?_
    · walk_at "rds"
      refine rd_ite (fun c1 => ?_) (fun c1 => ?_)
      · walk_at "rds"
        refine ⟨c, z, n, xs, rs, 0, rfl, Evl.ex_t e1 hc, dpAll_ex e1 _ _ hd, hz, hn, hrs, hH, hl, by decide, by decide, fun e => ?_, fun _ => rfl, fun q1 ys H' e hy hq hq' => kN _ _ ⟨q1, ys, rfl, e, hq', Nat.le_trans hy.len hn, hy.rng, fun x => ?_⟩⟩
        · have := hm1 (by omega)
          omega
        · rw [hy.mem]
          exact ⟨fun h => ⟨by omega, h⟩, fun h => h.2⟩
      · walk_at "rds"
        refine ⟨Nat.zero_le _, fun p hp => kN _ _ ⟨p, [], rfl, Evl.Ex.new hp, upd_same, Nat.zero_le _, nofun, fun x => ⟨fun h => (nomatch h), fun h => absurd h.1 (by omega)⟩⟩⟩
    obtain ⟨q1, ys, rfl, e2, hq1, yl, yr, ym⟩ := hv
    have hD2 := e2 _ _ hD1
    have e12 := e1.trans e2
    have nq : q1 ≠ D := fun e => by
      rw [e, hD2] at hq1
      cases hq1
    refine rd_refL (SqL.of hq1) ?_
    refine fr_list (xs := ys.map V.int) (fun i σ' H' => ∃ (x4 : Option V) (kvs : List (Key × V)) (ks : List Int), σ' = [some (.str z), some (.ref c), some (.int u), some (.ref D), x4, none, none, none, none, none, none] ∧ KpB D H2 H' ∧ H' D = some (.dK kvs) ∧ KeysI kvs ks ∧ ks.Nodup ∧
        (∀ x, x ∈ ks ↔ x ∈ ys.take i ∧ x < u))
      ⟨_, [], [], rfl, KpB.refl, hD2, rfl, List.nodup_nil, fun x => ⟨fun h => (nomatch h), fun h => (nomatch h.1)⟩⟩ (fun i σ' H' _ ⟨_, _, _, _, k, _⟩ => SqL.of (k _ _ nq hq1)) (fun i x σ' H3 hi hP => ?_) fun σ' H3 hP => ?_
    · obtain ⟨x4, kvs, ks, rfl, kp, hD3, hk, hnd, hm⟩ := hP
      rw [List.getElem?_map] at hi
      obtain ⟨t, ht, rfl⟩ := Option.map_eq_some_iff.mp hi
      refine rd_start (σ' := [some (.str z), some (.ref c), some (.int u), some (.ref D), some (.int t), none, none, none, none, none, none]) rfl ?_
      have htk : ys.take (i + 1) = ys.take i ++ [t] := by rw [List.take_add_one, ht] <;> rfl
      walk_at "rds"
      refine rd_ite (fun c1 => ?_) (fun c1 => ?_)
      · walk_at "rds"
        have hkl : kvs.length ≤ 60 := by
          rw [hk.len]
          refine Nat.le_trans (nodup_le hnd fun x hx => yr x (List.mem_of_mem_take ((hm x).mp hx).1)) hn
        refine ⟨D, _, rfl, DPut.k (k := Sum.inl t) (v := .bl true) hD3 (by rw [sizeLine_eq]; omega), ?_⟩
        walk_at "rds"
        refine ⟨_, _, putI ks t, rfl, kp.trans KpB.upd, upd_same, hk.put t _, putI_nodup hnd, fun x => ?_⟩
        rw [putI_mem, hm, htk, List.mem_append, List.mem_singleton]
        constructor
        · rintro (⟨h1, h2⟩ | rfl)
          · exact ⟨.inl h1, h2⟩
          · exact ⟨.inr rfl, c1⟩
        · rintro ⟨h1 | rfl, h2⟩
          · exact .inl ⟨h1, h2⟩
          · exact .inr rfl
      · walk_at "rds"
        refine ⟨_, kvs, ks, rfl, kp, hD3, hk, hnd, fun x => ?_⟩
        rw [hm, htk, List.mem_append, List.mem_singleton]
        constructor
        · rintro ⟨h1, h2⟩
          exact ⟨.inl h1, h2⟩
        · rintro ⟨h1 | rfl, h2⟩
          · exact ⟨h1, h2⟩
          · exact absurd h2 c1
    obtain ⟨x4, kvs0, ks0, rfl, kp0, hD3, hk0, hnd0, hm0⟩ := hP
    rw [List.length_map, List.take_of_length_le (Nat.le_refl _)] at hm0
    have hS0 : ∀ x, x ∈ ks0 ↔ (u ≠ 0 ∧ Yes z rs 0 x) ∧ x < u := fun x => by rw [hm0, ym]
    have hrng0 : ∀ x ∈ ks0, 1 ≤ x ∧ x ≤ (n : Int) := fun x hx => yr x ((hm0 x).mp hx).1
    have e03 : Evl.Ex H H3 := fun b o e => kp0 b o (fun w => (by rw [w, hD] at e; cases e)) (e12 _ _ e)
    clear kp0 hm0 hq1 nq e12 e2 hD2 e1 hD1
    walk_at "rvs"
    refine ⟨Nat.zero_le _, fun b hb => ?_⟩
    have hbD : b ≠ D := fun e => by
      rw [e, hD3] at hb
      cases hb
    have e4 := Evl.Ex.new (o := .lst []) hb
    walk_at "rvs"
    refine rd_ref (Evl.ex_t (e03.trans e4) hc) ?_
    refine fr_tup (xs := xs) (fun i σ' H' => ∃ (y6 y7 : Option V) (vs : List V) (rl : List Tw), σ' = [some (.str z), some (.ref c), some (.int u), some (.ref D), x4, some (.ref b), y6, y7, none, none, none] ∧ Evl.Ex H3 H' ∧ H' b = some (.lst vs) ∧ Paired (RuleW K H' b) vs rl ∧
        (∀ h ns, (h, ns) ∈ rl ↔ rulesOf z u (rs.take i) h ns) ∧ rl.length ≤ i)
      ⟨_, _, [], [], rfl, e4, upd_same, .nil, fun h ns => ⟨fun h => (nomatch h), fun h => (rulesOf_nil h).elim⟩, Nat.le_refl _⟩ (fun i σ' H' _ ⟨_, _, _, _, _, e, _⟩ => Evl.ex_t (e03.trans e) hc) (fun i x σ' H5 hi hP => ?_) fun σ' H5 hP => ?_
    · obtain ⟨y6, y7, vs, rl, rfl, e, hy, hp, hm, hlen⟩ := hP
      obtain ⟨d0, hd0, hx⟩ := dpAll_get hd hi
      rw [List.getElem?_map] at hd0
      obtain ⟨r, hr', rfl⟩ := Option.map_eq_some_iff.mp hd0
      have hrr := hrs r (List.mem_of_getElem? hr')
      have hHr : (posI r).length ≤ 1 := hH r (List.mem_of_getElem? hr')
      obtain ⟨v, rfl, sv⟩ := dp_row hx
      have sv5 := Evl.ex_t (e03.trans e) sv
      refine rd_start (σ' := [some (.str z), some (.ref c), some (.int u), some (.ref D), x4, some (.ref b), some (.ref v), y7, none, none, none]) rfl ?_
      have htk : rs.take (i + 1) = rs.take i ++ [r] := by rw [List.take_add_one, hr'] <;> rfl
      walk_at "rds"
      refine rd_ref sv5 ?_
      refine lc_fmT (fun x => decide (0 < x)) V.int (σx := fun x => [some (.str z), some (.ref c), some (.int u), some (.ref D), some x, some (.ref b), some (.ref v), y7, none, none, none]) sv5 (by have := hrr.len; omega) (fun _ => rfl) (fun _ => rfl)
        (fun x hx H' N S e kN kS => ?_) fun L1 H6 e6 eL hL => ?_
      · walk_at "rds"
        refine rd_ite (fun c => ?_) (fun c => ?_)
        · walk_at "rds"
          exact kN (decide_eq_true c) _ (Evl.Ex.refl _)
        · exact kS (decide_eq_false c) _ (Evl.Ex.refl _)
      replace hL : H6 L1 = some (.lst ((posI r).map V.int)) := hL
      have hy6 := e6 _ _ hy
      have hp6 := paired_map (fun _ _ => RuleW.ex e6) hp
      have e36 := e.trans e6
      have stay : ∀ {H7 : Hp}, Evl.Ex H6 H7 → ¬ (u < headF r ∧ heldBy z "s" (headF r) = true ∧ -u ∉ r) → ∃ (y6 y7 : Option V) (vs : List V) (rl : List Tw), [some (V.str z), some (.ref c), some (.int u), some (.ref D), x4, some (.ref b), some (.ref v), some (.ref L1), none, none, none] = [some (.str z), some (.ref c), some (.int u), some (.ref D), x4, some (.ref b), y6, y7, none, none, none] ∧ Evl.Ex H3 H7 ∧ H7 b = some (.lst vs) ∧ Paired (RuleW K H7 b) vs rl ∧
          (∀ h ns, (h, ns) ∈ rl ↔ rulesOf z u (rs.take (i + 1)) h ns) ∧ rl.length ≤ i + 1 := fun e7 hno => by
        refine ⟨_, _, vs, rl, rfl, e36.trans e7, e7 _ _ hy6, paired_map (fun _ _ => RuleW.ex e7) hp6, fun h ns => ?_, by omega⟩
        rw [hm, htk, rulesOf_snoc]
        exact ⟨.inl, fun q => q.elim id fun ⟨q1, q2, q3, q4, _⟩ => absurd (q1 ▸ ⟨q2, q3, q4⟩) hno⟩
      walk_at "rds"
      refine rd_lenL (SqL.of hL) ?_
      rw [List.length_map]
      walk_at "rds"
      refine rd_ite (fun c1 => ?_) (fun c1 => ?_)
      · have c1 := V.int.inj c1
        obtain ⟨x, ex⟩ : ∃ x, posI r = [x] := List.length_eq_one_iff.mp (by omega)
        obtain ⟨hx1, hx2, hx3⟩ := pos_one ex
        have hb1 := hrr.lit _ hx3
        rw [ex] at hL
        walk_at "rds"
        refine rd_ixL (SqL.of hL) (at_nat (k := 0) rfl rfl) ?_
        walk_at "rds"
        refine rd_ite (fun c2 => ?_) (fun c2 => ?_)
        · walk_at "rds"
          refine rd_ixL (SqL.of hL) (at_nat (k := 0) rfl rfl) ?_
          walk_at "rds"
          refine rd_ixS (by rw [hz.1, sizeLine_eq]; omega) (at_up hz (by omega) (by omega)) ?_
          walk_at "rds"
          refine rd_iteb (b := heldBy z "s" x) (fun c3 => ?_) (fun c3 => ?_)
          · walk_at "rds"
            refine rd_notInT (Evl.ex_t e6 sv5) ?_
            walk_at "rds"
            refine rd_iten (fun c4 => ?_) (fun c4 => ?_)
            · walk_at "rds"
              refine rd_tyL hy6 ?_
              walk_at "rds"
              refine rd_ixL (SqL.of hL) (at_nat (k := 0) rfl rfl) ?_
              walk_at "rds"
              refine rd_ref (Evl.ex_t e6 sv5) ?_
              refine lc_fmT (fun x => decide (x < 0) && heldBy z "s" x) (fun x => .int (-x)) (σx := fun x => [some (.str z), some (.ref c), some (.int u), some (.ref D), some x, some (.ref b), some (.ref v), some (.ref L1), none, none, none]) (Evl.ex_t e6 sv5) (by have := hrr.len; omega) (fun _ => rfl) (fun _ => rfl)
                (fun x hx H' N S e kN kS => ?_) fun nd H7 e7 hnd7 hnd => ?_
              · have hx1 := hrr.lit x hx
                walk_at "rds"
                refine rd_ite (fun c => ?_) (fun c => ?_)
                · walk_at "rds"
                  have hs : sgn z (-x) = sgn z x := by
                    unfold sgn
                    rw [Int.natAbs_neg]
                  refine rd_ixS (by rw [hz.1, sizeLine_eq]; omega) (at_up hz (by omega) (by omega)) ?_
                  rw [hs]
                  walk_at "rds"
                  refine rd_iteb (b := heldBy z "s" x) (fun c2 => ?_) (fun c2 => ?_)
                  · walk_at "rds"
                    exact kN (by show (decide (x < 0) && heldBy z "s" x) = true; rw [decide_eq_true c, c2]; rfl) _ (Evl.Ex.refl _)
                  · exact kS (by show (decide (x < 0) && heldBy z "s" x) = false; rw [c2, Bool.and_false]) _ (Evl.Ex.refl _)
                · exact kS (by show (decide (x < 0) && heldBy z "s" x) = false; rw [decide_eq_false c]; rfl) _ (Evl.Ex.refl _)
              have hnd2 : H7 nd = some (.lst ((needI z r).map V.int)) := by
                rw [hnd]
                unfold needI
                rw [List.map_map] <;> rfl
              walk_at "rds"
              refine ⟨(by show 2 ≤ sizeLine; decide), fun tt htt => ?_⟩
              have e8 := Evl.Ex.new (o := .tup [V.int x, .ref nd]) htt
              have hy8 := (e7.trans e8) _ _ hy6
              have lys : vs.length = rl.length := paired_len hp6
              walk_at "rds"
              refine rd_append hy8 (by have := (List.getElem?_eq_some_iff.mp hr').1; omega) ?_
              walk_at "rds"
              have nb : nd ≠ b := fun q => by
                rw [q, hy6] at hnd7
                cases hnd7
              have hnew : RuleW K (upd H7 tt (.tup [V.int x, .ref nd])) b (.ref tt) (x, needI z r) := ⟨tt, nd, rfl, SqT.of upd_same, e8 _ _ hnd2, nb⟩
              refine ⟨_, _, vs ++ [.ref tt], rl ++ [(x, needI z r)], rfl, Evl.Ex.mut ((e36.trans e7).trans e8) hb, upd_same, ?_, fun h ns => ?_, by rw [List.length_append, List.length_singleton]; omega⟩
              · exact paired_map (fun _ _ => RuleW.upd hy8) (paired_app hnew (paired_map (fun _ _ => RuleW.ex (e7.trans e8)) hp6))
              · rw [htk, rulesOf_snoc, ← hm, List.mem_append, List.mem_singleton, hx1]
                constructor
                · rintro (h | h)
                  · exact .inl h
                  · cases h
                    exact .inr ⟨rfl, c2, c3, c4, rfl⟩
                · rintro (h | ⟨rfl, _, _, _, rfl⟩)
                  · exact .inl h
                  · exact .inr rfl
            · walk_at "rds"
              exact stay (Evl.Ex.refl _) (fun q => q.2.2 c4)
          · walk_at "rds"
            exact stay (Evl.Ex.refl _) (fun q => by rw [hx1, c3] at q; cases q.2.1)
        · walk_at "rds"
          exact stay (Evl.Ex.refl _) (fun q => by rw [hx1] at q; exact c2 q.1)
      · walk_at "rds"
        have h0 : posI r = [] := by
          cases h : posI r with
          | nil => rfl
          | cons y t =>
            rw [h] at hHr c1
            rw [List.length_cons] at hHr c1
            exact absurd (congrArg V.int (by omega)) c1
        exact stay (Evl.Ex.refl _) (fun q => by have := pos_none h0; omega)
    obtain ⟨y6, y7, vs, rl, rfl, e5, hy, hp, hrl, hlen⟩ := hP
    rw [lx, List.take_of_length_le (Nat.le_refl _)] at hrl
    have hD5 := e5 _ _ hD3
    have lys : vs.length = rl.length := paired_len hp
    have e05 := e03.trans e5
    clear e4 hb hD3 e03 e5
    walk_at "rds"
    refine rd_whileE ⟨fun mm σ' H' => ∃ (mn : Int) (z4 z9 : Option V) (kv1 : List (Key × V)) (ks1 : List Int), σ' = [some (.str z), some (.ref c), some (.int u), some (.ref D), z4, some (.ref b), y6, y7, some (.int mn), z9, none] ∧ KpB D H5 H' ∧
        H' D = some (.dK kv1) ∧ KeysI kv1 ks1 ∧ Grow n (fun x => x ∈ ks0) (rulesOf z u rs) ks1 ∧ -1 ≤ mn ∧ mn ≤ (ks1.length : Int) ∧ (mn < (ks1.length : Int) ∨ ∀ h ns, rulesOf z u rs h ns → (∀ y ∈ ns, y ∈ ks1) → h ∈ ks1) ∧ mm + (mn + 1).toNat = 100,
      ⟨100, -1, _, _, kvs0, ks0, rfl, KpB.refl, hD5, hk0, ⟨hnd0, hrng0, fun x hx => .base hx, fun x hx => hx⟩, by decide, by omega, .inl (by omega), rfl⟩, fun mm σ' H6 hW => ?_⟩
    obtain ⟨mn, z4, z9, kv1, ks1, rfl, kp, hD6, hk1, hg, h1, h2, h3, h4⟩ := hW
    have kl1 : ks1.length ≤ n := nodup_le hg.nd hg.rng
    walk_at "rds"
    refine ⟨D, kv1, rfl, hD6, ?_⟩
    rw [hk1.len]
    walk_at "rds"
    refine rd_ite (fun c1 => ?_) (fun c1 => ?_)
    · refine ⟨fun σ2 H2 => ∃ (mn : Int) (z4 z9 : Option V) (kv1 : List (Key × V)) (ks2 : List Int), σ2 = [some (.str z), some (.ref c), some (.int u), some (.ref D), z4, some (.ref b), y6, y7, some (.int mn), z9, none] ∧ KpB D H5 H2 ∧
        H2 D = some (.dK kv1) ∧ KeysI kv1 ks2 ∧ Grow n (fun x => x ∈ ks0) (rulesOf z u rs) ks2 ∧ mn = (ks1.length : Int) ∧ mn ≤ (ks2.length : Int) ∧ (mn < (ks2.length : Int) ∨ ∀ h ns, rulesOf z u rs h ns → (∀ y ∈ ns, y ∈ ks2) → h ∈ ks2), fun σ2 H2 hN => ?_, ?_⟩
      · obtain ⟨mn2, w4, w9, kv2, ks2, g1, g2, g3, g4, g5, g6, g7, g8⟩ := hN
        exact ⟨100 - (mn2 + 1).toNat, by omega, mn2, w4, w9, kv2, ks2, g1, g2, g3, g4, g5, by omega, g7, g8, by omega⟩
      · walk_at "rds"
        refine ⟨D, kv1, rfl, hD6, ?_⟩
        rw [hk1.len]
        walk_at "rds"
        refine rd_refL (SqL.of (kp _ _ hbD hy)) ?_
        have hat : ∀ i, i < vs.length → ∃ tt nd, vs[i]? = some (.ref tt) ∧ SqT K H5 tt [.int (rl.getD i (0, [])).1, .ref nd] ∧ H5 nd = some (.lst ((rl.getD i (0, [])).2.map V.int)) ∧ nd ≠ b ∧ rl.getD i (0, []) ∈ rl := fun i hi => by
          have e4 : rl[i]? = some (rl.getD i (0, [])) := by rw [List.getD_eq_getElem?_getD, List.getElem?_eq_getElem (by omega)] <;> rfl
          obtain ⟨v, g1, tt, nd, g2, g3, g4, g5⟩ := paired_get hp e4
          exact ⟨tt, nd, by rw [g1, g2], g3, g4, g5, List.mem_of_getElem? e4⟩
        obtain ⟨ndf, hndf⟩ : ∃ ndf : Nat → Addr, ∀ i, i < vs.length → ∃ tt, vs[i]? = some (.ref tt) ∧ SqT K H5 tt [.int (rl.getD i (0, [])).1, .ref (ndf i)] ∧ H5 (ndf i) = some (.lst ((rl.getD i (0, [])).2.map V.int)) ∧ rl.getD i (0, []) ∈ rl := by
          refine ⟨fun i => if h : i < vs.length then (hat i h).choose_spec.choose else 0, fun i hi => ?_⟩
          have g := (hat i hi).choose_spec.choose_spec
          refine ⟨(hat i hi).choose, g.1, ?_, ?_, g.2.2.2.2⟩
          · show SqT K H5 _ [_, .ref (if h : i < vs.length then (hat i h).choose_spec.choose else 0)]
            rw [dif_pos hi]
            exact g.2.1
          · show H5 (if h : i < vs.length then (hat i h).choose_spec.choose else 0) = _
            rw [dif_pos hi]
            exact g.2.2.1
        refine fr_listP (xs := vs) (px := fun i => .int (rl.getD i (0, [])).1) (py := fun i => .ref (ndf i)) rfl
          (fun i σ' H' => ∃ (z4 z9 : Option V) (kv2 : List (Key × V)) (ks2 : List Int), σ' = [some (.str z), some (.ref c), some (.int u), some (.ref D), z4, some (.ref b), y6, y7, some (.int (ks1.length : Int)), z9, none] ∧ KpB D H5 H' ∧
            H' D = some (.dK kv2) ∧ KeysI kv2 ks2 ∧ Grow n (fun x => x ∈ ks0) (rulesOf z u rs) ks2 ∧ ks1.length ≤ ks2.length ∧ (ks2.length = ks1.length → ∀ j, j < i → (∀ y ∈ (rl.getD j (0, [])).2, y ∈ ks2) → (rl.getD j (0, [])).1 ∈ ks2))
          ⟨_, _, kv1, ks1, rfl, kp, hD6, hk1, hg, Nat.le_refl _, fun _ j hj => absurd hj (Nat.not_lt_zero j)⟩ (fun i σ' H' _ ⟨_, _, _, _, _, k, _⟩ => SqL.of (k _ _ hbD hy)) (fun i σ' H7 hi hP => ?_) fun σ' H7 hP => ?_
        · obtain ⟨w4, w9, kv2, ks2, rfl, kp7, hD7, hk2, hg2, hle, hcl⟩ := hP
          obtain ⟨tt, g1, g2, g3, g4⟩ := hndf i hi
          refine ⟨tt, g1, kp7.tup hD5 g2, ?_⟩
          refine rd_start (σ' := [some (.str z), some (.ref c), some (.int u), some (.ref D), some (.int (rl.getD i (0, [])).1), some (.ref b), y6, y7, some (.int (ks1.length : Int)), some (.ref (ndf i)), none]) rfl ?_
          have g5 : H7 (ndf i) = _ := kp7 _ _ (fun z => (by rw [z, hD5] at g3; cases g3)) g3
          have hcl2 : ∀ (j : Nat), ks2.length = ks1.length → j < i + 1 → ((∀ y ∈ (rl.getD i (0, [])).2, y ∈ ks2) → (rl.getD i (0, [])).1 ∈ ks2) → (∀ y ∈ (rl.getD j (0, [])).2, y ∈ ks2) → (rl.getD j (0, [])).1 ∈ ks2 := fun j e hj hi2 => by
            by_cases c : j < i
            · exact hcl e j c
            · have ej : j = i := by omega
              rw [ej]
              exact hi2
          have hrule : rulesOf z u rs (rl.getD i (0, [])).1 (rl.getD i (0, [])).2 := (hrl _ _).mp g4
          have hnl : (rl.getD i (0, [])).2.length ≤ 60 := by
            obtain ⟨r, hr1, _, _, _, _, hr6⟩ := hrule
            rw [hr6]
            exact Nat.le_trans (needI_length z r) (hrs r hr1).len
          have hhd : 1 ≤ (rl.getD i (0, [])).1 ∧ (rl.getD i (0, [])).1 ≤ (n : Int) := by
            obtain ⟨r, hr1, hr2, hr3, _, _, _⟩ := hrule
            have hpos : headF r ∈ r := (headF_mem r).resolve_left fun h => by omega
            have := (hrs r hr1).lit _ hpos
            omega
          clear g2 g3 g4 g1
          generalize (rl.getD i (0, [])).1 = hd at hcl2 hrule hhd ⊢
          generalize (rl.getD i (0, [])).2 = ns at hcl2 hrule hnl g5 ⊢
          walk_at "rds"
          refine rd_refL (SqL.of g5) ?_
          refine lc_fmL (fun y => !decide (y ∈ ks2)) (fun _ => .int 1) (σx := fun y => [some (.str z), some (.ref c), some (.int u), some (.ref D), some (.int hd), some (.ref b), y6, y7, some (.int (ks1.length : Int)), some (.ref (ndf i)), some y]) (SqL.of g5) (by omega) (fun _ => rfl) (fun _ => rfl)
            (fun y hy H' N S e kN kS => ?_) fun D5 H8 e8 eD5 hD8 => ?_
          · walk_at "rds"
            obtain ⟨o2, hg2', ho2⟩ := dget_in (x := y) (e _ _ hD7) hk2
            refine ⟨D, o2, rfl, hg2', ?_⟩
            rw [ho2]
            walk_at "rds"
            refine rd_iten (fun c => ?_) (fun c => ?_)
            · walk_at "rds"
              exact kN (by show (!decide (y ∈ ks2)) = true; rw [decide_eq_false c]; rfl) _ (Evl.Ex.refl _)
            · exact kS (by show (!decide (y ∈ ks2)) = false; rw [decide_eq_true c]; rfl) _ (Evl.Ex.refl _)
          have e7 : (ns.filter fun y => !decide (y ∈ ks2)).map (fun _ => V.int 1) = ((ns.filter fun y => !decide (y ∈ ks2)).map fun _ => (1 : Int)).map V.int := by rw [List.map_map] <;> rfl
          rw [e7] at hD8
          walk_at "rds"
          refine ⟨Nat.zero_le _, fun c5 hc5 => ?_⟩
          have e9 := Evl.Ex.new (o := .lst []) hc5
          refine rd_eqD (dp_L (SqL.of (e9 _ _ hD8))) (dp_L (ns := []) (SqL.of upd_same)) (Nice.lst (NiceAll.ints fun x hx => by
            obtain ⟨_, _, rfl⟩ := List.mem_map.mp hx
            decide)) (Nice.lst (NiceAll.ints nofun)) (by decide) (by decide) ?_
          have e10 : PyData.eqv (.list (dI ((ns.filter fun y => !decide (y ∈ ks2)).map fun _ => (1 : Int)))) (.list (dI [])) = ns.all fun y => decide (y ∈ ks2) := ones_none ns ks2
          rw [e10]
          have hD9 := (e8.trans e9) _ _ hD7
          have hall : (ns.all fun y => decide (y ∈ ks2)) = true ↔ ∀ y ∈ ns, y ∈ ks2 := by
            rw [List.all_eq_true]
            exact ⟨fun h y hy => of_decide_eq_true (h y hy), fun h y hy => decide_eq_true (h y hy)⟩
          walk_at "rds"
          refine rd_iteb (fun c3 => ?_) (fun c3 => ?_)
          · have hin := hall.mp c3
            walk_at "rds"
            have hlen2 : kv2.length ≤ 60 := by
              rw [hk2.len]
              exact Nat.le_trans (nodup_le hg2.nd hg2.rng) hn
            refine ⟨D, _, rfl, DPut.k (k := Sum.inl hd) (v := .bl true) hD9 (by rw [sizeLine_eq]; omega), ?_⟩
            walk_at "rds"
            have hg3 : Grow n (fun x => x ∈ ks0) (rulesOf z u rs) (putI ks2 hd) := ⟨putI_nodup hg2.nd, fun x hx => by
              rcases putI_mem.mp hx with h | rfl
              · exact hg2.rng x h
              · exact hhd, fun x hx => by
              rcases putI_mem.mp hx with h | rfl
              · exact hg2.sub x h
              · exact .step hrule fun y hy => hg2.sub y (hin y hy), fun x hx => putI_mem.mpr (.inl (hg2.sup x hx))⟩
            by_cases c4 : hd ∈ ks2
            · have e11 : putI ks2 hd = ks2 := if_pos c4
              refine ⟨_, _, putK kv2 (Sum.inl hd) (.bl true), putI ks2 hd, rfl, (kp7.trans (KpB.ex (e8.trans e9))).trans KpB.upd, upd_same, hk2.put hd _, hg3, by rw [e11]; exact hle, fun e j hj => ?_⟩
              rw [e11] at e ⊢
              exact hcl2 j e hj fun _ => c4
            · have hl2 : (putI ks2 hd).length = ks2.length + 1 := by
                unfold putI
                rw [if_neg c4, List.length_append, List.length_singleton]
              exact ⟨_, _, putK kv2 (Sum.inl hd) (.bl true), putI ks2 hd, rfl, (kp7.trans (KpB.ex (e8.trans e9))).trans KpB.upd, upd_same, hk2.put hd _, hg3, by omega, fun e => by omega⟩
          · walk_at "rds"
            exact ⟨_, _, kv2, ks2, rfl, kp7.trans (KpB.ex (e8.trans e9)), hD9, hk2, hg2, hle, fun e j hj => hcl2 j e hj fun hin => absurd (hall.mpr hin) (by rw [c3]; decide)⟩
        · obtain ⟨w4, w9, kv2, ks2, rfl, kp7, hD7, hk2, hg2, hle, hcl⟩ := hP
          walk_at "rds"
          refine ⟨_, w4, w9, kv2, ks2, rfl, kp7, hD7, hk2, hg2, rfl, by omega, ?_⟩
          by_cases c : ks2.length = ks1.length
          · refine .inr fun h ns hr hin => ?_
            obtain ⟨j, hj⟩ := List.getElem?_of_mem ((hrl h ns).mpr hr)
            have hjl := (List.getElem?_eq_some_iff.mp hj).1
            have e5 : rl.getD j (0, []) = (h, ns) := by rw [List.getD_eq_getElem?_getD, hj] <;> rfl
            have := hcl c j (by omega)
            rw [e5] at this
            exact this hin
          · exact .inl (by omega)
    · walk_at "rds"
      have hcl := h3.resolve_left (by omega)
      have hyes : ∀ x, x ∈ ks1 ↔ Yes z rs u x := fun x => by
        have h5 : x ∈ ks1 ↔ Cl (fun x => x ∈ ks0) (rulesOf z u rs) x := ⟨hg.sub x, Cl.sub (p := fun x => x ∈ ks1) hg.sup (fun h ns hr hin => hcl h ns hr hin) x⟩
        rw [h5]
        by_cases c : u = 0
        · subst c
          rw [Yes.zero]
          exact Cl.congr (fun y => by rw [hS0]; exact ⟨fun h => h.1.1 rfl, fun h => h.elim⟩) x
        · rw [Yes.other c]
          exact Cl.congr (fun y => by rw [hS0]; exact ⟨fun h => ⟨h.1.2, h.2⟩, fun h => ⟨⟨c, h.1⟩, h.2⟩⟩) x
      refine rd_listD hD6 hk1 fun p hp => ?_
      walk_at "rds"
      refine rd_sorted (SqL.of upd_same) fun ls v pl so hv => ?_
      have e6 : Evl.Ex H H6 := fun b' o e => kp b' o (fun z => (by rw [z, hD] at e; cases e)) (e05 _ _ e)
      have e7 := e6.trans (Evl.Ex.new (o := .lst (ks1.map V.int)) hp)
      exact q v ls _ (e7.trans (Evl.Ex.new hv)) (YesT.of hg.nd hg.rng hyes pl so) (Evl.fresh_back e7 hv) upd_same
theorem ok_yes0 {f : Addr} {fd : FuncData} : FnOk P w K mg base CX0 0 f fd ["owners", "clauses", "u"] (spYes K 0) :=
  ⟨fun vs H Q E h => by
    obtain ⟨c, z, n, xs, rs, u, _, _, _, _, _, _, _, _, _, _, hm, _⟩ := h
    exact absurd rfl hm, fun A outer s H args us vs Q E hr e0 hb r hsp => by
    obtain ⟨c, z, n, xs, rs, u, _, _, _, _, _, _, _, _, _, _, hm, _⟩ := hsp
    exact absurd rfl hm⟩
theorem ok_yes {f : Addr} {fd : FuncData} (F : Fun K "_law_yes" "_law_yes" s_law_yes f fd) (T : Bl mg) (C_law_yes : Callee K mg "_law_yes" f fd ["owners", "clauses", "u"]) : FnOk P w K mg base CX0 2 f fd ["owners", "clauses", "u"] (spYes K 2) :=
  ok_yes1 F T (ok_yes1 F T ok_yes0 C_law_yes) C_law_yes
end
end KA
set_option Elab.async false
set_option linter.all false
set_option maxRecDepth 100000
set_option maxHeartbeats 400000
set_option pp.maxSteps 300
namespace KA
open PySem PySem.Spec PyProof.Rows L2 Ea
abbrev s_law_horns : Stmt := topS 22
theorem sc_law_horns : FnScope ["bag", "owners", "many", "letters", "found", "turn", "some", "row", "k"] ["bag", "owners", "many"] (defScope s_law_horns) :=
  ⟨rfl, rfl, rfl, by decide +kernel, rfl, by decide +kernel, by decide +kernel⟩
local macro_rules | `(tactic| walk_at "rd") => `(tactic| first
  | (with_reducible refine rd_seq ?_) | (with_reducible refine rd_asg ?_) | (with_reducible refine rd_if ?_) | (with_reducible refine rd_ret ?_) | (with_reducible refine rd_next ?_)
  | (with_reducible refine rd_drop ?_) | ((with_reducible refine rd_name (σ' := ?ss) ?hs ?_); (case hs => (dsimp only [List.set]; exact rfl)))
  | ((with_reducible refine rd_var (v := ?vv) ?hv ?_); (case hv => exact rfl)) | (with_reducible refine rd_c ?_) | (with_reducible refine rd_op ?_) | (with_reducible refine rd_un ?_)
  | (with_reducible refine rd_I0 ?_) | (with_reducible refine rd_U ?_) | (with_reducible refine rd_test ?_) | (with_reducible refine rd_B ?_) | (with_reducible refine rd_k ?_)
  | (with_reducible refine rd_not ?_) | (with_reducible refine rd_and ?_) | (with_reducible refine rd_or ?_) | (with_reducible refine rd_ifE ?_)
  | (with_reducible refine rd_par ?_) | ((with_reducible refine rd_par2 (σ' := ?ss) ?hs ?_); (case hs => (dsimp only [List.set]; exact rfl)))
  | (with_reducible refine rd_gsub ?_) | (with_reducible refine rd_andV ?_) | (with_reducible refine rd_orV ?_) | (with_reducible refine rd_notV ?_)
  | (with_reducible refine rd_lc ?_) | (with_reducible refine rd_iTup ?_) | (with_reducible refine rd_iList ?_) | (with_reducible refine rd_iRng1 ?_) | (with_reducible refine rd_iRng2 ?_) | (with_reducible refine rd_iEnumT ?_) | (with_reducible refine rd_iEnum ?_) | (with_reducible refine rd_iZipM ?_) | (with_reducible refine rd_iEnumS ?_) | (with_reducible refine rd_iKeys ?_) | (with_reducible refine rd_din ?_) | (with_reducible refine rd_dnotin ?_)
  | (with_reducible refine rd_yes ?_) | (with_reducible refine rd_true ?_) | (with_reducible refine rd_false ?_) | (with_reducible refine rd_m1 ?_) | (with_reducible refine rd_isS ?_)
  | ((with_reducible refine rd_eq ?hs ?_); (case hs => exact rfl)) | ((with_reducible refine rd_ne ?hs ?_); (case hs => exact rfl))
  | (with_reducible refine rd_listRg ?_) | (with_reducible refine rd_rg2 ?_) | (with_reducible refine rd_rgk ?_)
  | (with_reducible refine rd_dnew ?_) | (with_reducible refine rd_ddel ?_) | (with_reducible refine rd_kw ?_) | (with_reducible refine rd_callS ?_) | (with_reducible refine rd_dc ?_) | (with_reducible refine rd_for ?_) | (with_reducible refine rd_tru ?_) | (with_reducible refine rd_truI ?_)
  | (with_reducible refine rd_nil ?_) | (with_reducible refine rd_cons ?_) | (with_reducible refine rd_call ?_) | (with_reducible refine rd_cb ?_)
  | (with_reducible refine rd_tup ?_) | (with_reducible refine rd_lst ?_) | (with_reducible refine rd_dget ?_) | (with_reducible refine rd_dput ?_) | (with_reducible refine rd_dget2 ?_) | (with_reducible refine rd_sl ?_)
  | (with_reducible refine rd_nopart ?_) | (with_reducible refine rd_part ?_) | (with_reducible refine rd_parti ?_) | (with_reducible refine rd_bm ?_) | (with_reducible refine rd_bm0 ?_)
  | (with_reducible refine rd_int ?_) | (with_reducible refine rd_intb ?_) | (with_reducible refine rd_abs ?_) | (with_reducible refine rd_min2 ?_) | (with_reducible refine rd_max2 ?_))
local macro_rules | `(tactic| walk_at "rds") => `(tactic| repeat (walk_at "rd"))
local macro_rules | `(tactic| walk_at "rq") => `(tactic| first
  | (with_reducible refine rd_seq ?_) | (with_reducible refine rd_asg ?_) | (with_reducible refine rd_ret ?_) | (with_reducible refine rd_next ?_)
  | (with_reducible refine rd_drop ?_) | ((with_reducible refine rd_name (σ' := ?ss) ?hs ?_); (case hs => (dsimp only [List.set]; exact rfl)))
  | ((with_reducible refine rd_var (v := ?vv) ?hv ?_); (case hv => exact rfl)) | (with_reducible refine rd_c ?_) | (with_reducible refine rd_op ?_) | (with_reducible refine rd_un ?_)
  | (with_reducible refine rd_I0 ?_) | (with_reducible refine rd_U ?_) | (with_reducible refine rd_test ?_) | (with_reducible refine rd_B ?_) | (with_reducible refine rd_k ?_)
  | (with_reducible refine rd_not ?_) | (with_reducible refine rd_and ?_) | (with_reducible refine rd_or ?_) | (with_reducible refine rd_ifE ?_)
  | (with_reducible refine rd_par ?_) | ((with_reducible refine rd_par2 (σ' := ?ss) ?hs ?_); (case hs => (dsimp only [List.set]; exact rfl)))
  | (with_reducible refine rd_gsub ?_) | (with_reducible refine rd_andV ?_) | (with_reducible refine rd_orV ?_) | (with_reducible refine rd_notV ?_)
  | (with_reducible refine rd_lc ?_) | (with_reducible refine rd_iTup ?_) | (with_reducible refine rd_iList ?_) | (with_reducible refine rd_iRng1 ?_) | (with_reducible refine rd_iRng2 ?_) | (with_reducible refine rd_iEnumT ?_) | (with_reducible refine rd_iEnum ?_) | (with_reducible refine rd_iZipM ?_) | (with_reducible refine rd_iEnumS ?_) | (with_reducible refine rd_iKeys ?_) | (with_reducible refine rd_din ?_) | (with_reducible refine rd_dnotin ?_)
  | (with_reducible refine rd_yes ?_) | (with_reducible refine rd_true ?_) | (with_reducible refine rd_false ?_) | (with_reducible refine rd_m1 ?_) | (with_reducible refine rd_isS ?_)
  | ((with_reducible refine rd_eq ?hs ?_); (case hs => exact rfl)) | ((with_reducible refine rd_ne ?hs ?_); (case hs => exact rfl))
  | (with_reducible refine rd_listRg ?_) | (with_reducible refine rd_rg2 ?_) | (with_reducible refine rd_rgk ?_)
  | (with_reducible refine rd_dnew ?_) | (with_reducible refine rd_ddel ?_) | (with_reducible refine rd_kw ?_) | (with_reducible refine rd_callS ?_) | (with_reducible refine rd_dc ?_) | (with_reducible refine rd_for ?_) | (with_reducible refine rd_tru ?_) | (with_reducible refine rd_truI ?_)
  | (with_reducible refine rd_nil ?_) | (with_reducible refine rd_cons ?_) | (with_reducible refine rd_call ?_) | (with_reducible refine rd_cb ?_)
  | (with_reducible refine rd_tup ?_) | (with_reducible refine rd_lst ?_) | (with_reducible refine rd_dget ?_) | (with_reducible refine rd_dput ?_) | (with_reducible refine rd_dget2 ?_) | (with_reducible refine rd_sl ?_)
  | (with_reducible refine rd_nopart ?_) | (with_reducible refine rd_part ?_) | (with_reducible refine rd_parti ?_) | (with_reducible refine rd_bm ?_) | (with_reducible refine rd_bm0 ?_)
  | (with_reducible refine rd_int ?_) | (with_reducible refine rd_intb ?_) | (with_reducible refine rd_abs ?_) | (with_reducible refine rd_min2 ?_) | (with_reducible refine rd_max2 ?_))
local macro_rules | `(tactic| walk_at "rqs") => `(tactic| repeat (walk_at "rq"))
local macro_rules | `(tactic| walk_at "rv") => `(tactic| first
  | (with_reducible refine rd_seq ?_) | (with_reducible refine rd_asg ?_) | (with_reducible refine rd_ret ?_) | (with_reducible refine rd_next ?_)
  | (with_reducible refine rd_drop ?_) | ((with_reducible refine rd_name (σ' := ?ss) ?hs ?_); (case hs => (dsimp only [List.set]; exact rfl)))
  | ((with_reducible refine rd_var (v := ?vv) ?hv ?_); (case hv => exact rfl)) | (with_reducible refine rd_c ?_) | (with_reducible refine rd_op ?_) | (with_reducible refine rd_un ?_)
  | (with_reducible refine rd_I0 ?_) | (with_reducible refine rd_U ?_) | (with_reducible refine rd_test ?_) | (with_reducible refine rd_B ?_) | (with_reducible refine rd_k ?_)
  | (with_reducible refine rd_not ?_) | (with_reducible refine rd_and ?_) | (with_reducible refine rd_or ?_)
  | (with_reducible refine rd_par ?_) | ((with_reducible refine rd_par2 (σ' := ?ss) ?hs ?_); (case hs => (dsimp only [List.set]; exact rfl)))
  | (with_reducible refine rd_gsub ?_) | (with_reducible refine rd_andV ?_) | (with_reducible refine rd_orV ?_) | (with_reducible refine rd_notV ?_)
  | (with_reducible refine rd_lc ?_) | (with_reducible refine rd_iTup ?_) | (with_reducible refine rd_iList ?_) | (with_reducible refine rd_iRng1 ?_) | (with_reducible refine rd_iRng2 ?_) | (with_reducible refine rd_iEnumT ?_) | (with_reducible refine rd_iEnum ?_) | (with_reducible refine rd_iZipM ?_) | (with_reducible refine rd_iEnumS ?_) | (with_reducible refine rd_iKeys ?_) | (with_reducible refine rd_din ?_) | (with_reducible refine rd_dnotin ?_)
  | (with_reducible refine rd_yes ?_) | (with_reducible refine rd_true ?_) | (with_reducible refine rd_false ?_) | (with_reducible refine rd_m1 ?_) | (with_reducible refine rd_isS ?_)
  | ((with_reducible refine rd_eq ?hs ?_); (case hs => exact rfl)) | ((with_reducible refine rd_ne ?hs ?_); (case hs => exact rfl))
  | (with_reducible refine rd_listRg ?_) | (with_reducible refine rd_rg2 ?_) | (with_reducible refine rd_rgk ?_)
  | (with_reducible refine rd_dnew ?_) | (with_reducible refine rd_ddel ?_) | (with_reducible refine rd_kw ?_) | (with_reducible refine rd_callS ?_) | (with_reducible refine rd_dc ?_) | (with_reducible refine rd_for ?_) | (with_reducible refine rd_tru ?_) | (with_reducible refine rd_truI ?_)
  | (with_reducible refine rd_nil ?_) | (with_reducible refine rd_cons ?_) | (with_reducible refine rd_call ?_) | (with_reducible refine rd_cb ?_)
  | (with_reducible refine rd_tup ?_) | (with_reducible refine rd_lst ?_) | (with_reducible refine rd_dget ?_) | (with_reducible refine rd_dput ?_) | (with_reducible refine rd_dget2 ?_) | (with_reducible refine rd_sl ?_)
  | (with_reducible refine rd_nopart ?_) | (with_reducible refine rd_part ?_) | (with_reducible refine rd_parti ?_) | (with_reducible refine rd_bm ?_) | (with_reducible refine rd_bm0 ?_)
  | (with_reducible refine rd_int ?_) | (with_reducible refine rd_intb ?_) | (with_reducible refine rd_abs ?_) | (with_reducible refine rd_min2 ?_) | (with_reducible refine rd_max2 ?_))
local macro_rules | `(tactic| walk_at "rvs") => `(tactic| repeat (walk_at "rv"))

theorem horn_perm {r s : List Int} (p : r.Perm s) (h : Horn s) : Horn r := by
  have h : (s.filter fun x => decide (0 < x)).length ≤ 1 := h
  show (r.filter fun x => decide (0 < x)).length ≤ 1
  rw [(p.filter _).length_eq]
  exact h
theorem posI_neg {l : List Int} (h : ∀ x ∈ l, x < 0) : posI l = [] := by
  unfold posI
  rw [List.filter_eq_nil_iff]
  intro x hx
  have := h x hx
  rw [decide_eq_true_eq]
  omega
theorem horn_app {l m : List Int} (h : ∀ x ∈ l, x < 0) (h2 : m.length ≤ 1) : Horn (l ++ m) := by
  show ((l ++ m).filter fun x => decide (0 < x)).length ≤ 1
  rw [List.filter_append, List.length_append]
  have h3 : (l.filter fun x => decide (0 < x)) = [] := posI_neg h
  rw [h3, List.length_nil]
  have := List.length_filter_le (fun x : Int => decide (0 < x)) m
  omega
theorem cls_perm {n : Nat} {r s : List Int} (p : r.Perm s) (h : Cls n s) : Cls n r := ⟨fun x hx => h.lit x (p.mem_iff.mp hx), by rw [p.length_eq]; exact h.len⟩
section
variable {K : PySem.W.Frag} {H H' : Hp} {d l : Addr} {v : V} {r : List Int} {n : Nat}
theorem Gl.rows (g : Gl d l H H') (hD : DeckL d l H) {xs : List V} {rs : List (List Int)} (h : DpAll K H xs (rs.map dR)) : DpAll K H' xs (rs.map dR) := Gl.dps g hD (noL_Rs rs) h
theorem rows_upd {p : Addr} {ys : List V} {u : HO} (e : H p = some (.lst ys)) {xs : List V} {rs : List (List Int)} (h : DpAll K H xs (rs.map dR)) : DpAll K (upd H p u) xs (rs.map dR) := upd_dps e (noL_Rs rs) h
theorem rows_app {xs : List V} {rs : List (List Int)} (h : DpAll K H xs (rs.map dR)) (h2 : Dp K H v (dR r)) : DpAll K H (xs ++ [v]) ((rs ++ [r]).map dR) := by
  rw [List.map_append]
  exact dpAll_app h (.cons h2 .nil)
end
/-- rows that a Horn sentence may have -/
def HRows (n : Nat) (rs : List (List Int)) : Prop := ∀ r ∈ rs, Cls n r ∧ Horn r
theorem HRows.snoc {n : Nat} {rs : List (List Int)} {r : List Int} (h : HRows n rs) (h1 : Cls n r) (h2 : Horn r) : HRows n (rs ++ [r]) := fun s hs => by
  rcases List.mem_append.mp hs with hs | hs
  · exact h s hs
  · rw [List.mem_singleton.mp hs]
    exact ⟨h1, h2⟩
section
variable {P : Program} {w : World} {K : PySem.W.Frag} {mg : Str → Option Value} {base : Heap}
def spHorns (K : PySem.W.Frag) : Sp := fun vs H Q _ => ∃ (d l : Addr) (n : Nat) (z : Str) (many : Int), vs = [.ref d, .str z, .int many] ∧ DeckL d l H ∧ OwnS n z ∧ n ≤ 60 ∧ 0 ≤ many ∧ many ≤ 200 ∧
  ∀ (q : Addr) (ys : List V) (rs : List (List Int)) (H' : Hp), Gl d l H H' → H q = none → H' q = some (.lst ys) → DpAll K H' ys (rs.map dR) → HRows n rs → rs.length ≤ many.toNat → Q (.ref q) H'
theorem ok_horns {f fD fP fM fU : Addr} {fd fdD fdP fdM fdU : FuncData} (F : Fun K "_law_horns" "_law_horns" s_law_horns f fd) (T : Bl mg)
    (G_law_draw : FnOk P w K mg base CX0 1 fD fdD ["bag", "many"] spDraw) (C_law_draw : Callee K mg "_law_draw" fD fdD ["bag", "many"])
    (G_law_pick : FnOk P w K mg base CX0 2 fP fdP ["bag", "row"] spPick) (C_law_pick : Callee K mg "_law_pick" fP fdP ["bag", "row"])
    (G_law_mixed : FnOk P w K mg base CX0 2 fM fdM ["bag", "row"] (spMixed K)) (C_law_mixed : Callee K mg "_law_mixed" fM fdM ["bag", "row"])
    (G_law_unlike : FnOk P w K mg base CX0 1 fU fdU ["rows"] (spUnlike K)) (C_law_unlike : Callee K mg "_law_unlike" fU fdU ["rows"]) :
    FnOk P w K mg base CX0 3 f fd ["bag", "owners", "many"] (spHorns K) := by
  refine F.ok sc_law_horns (fun vs H Q E h => ?_) (fun cdv A outer s H vs Q E hr h => ?_)
  · obtain ⟨d, l, n, z, many, rfl, _⟩ := h
    rfl
  · obtain ⟨d, l, n, z, many, rfl, hD, hz, hn, m0, m1, q⟩ := h
    refine ⟨_, (pss_cons (ps_par (i := 3) (j := 4) rfl sc_law_horns.nd rfl rfl (by decide) rfl rfl (pa_cons (pe_listRg rfl (by rfl) T.list (prg_2 (by rfl) T.range pe_int (pe_op op_add (pe_callB c_lenS (by rfl) T.len (by decide +kernel) (pa_cons (pv 1) pa_nil)) pe_int))) (pa_cons (pe_lst pa_nil) pa_nil)) (by rfl))
 (pss_cons (ps_for PassesOwn.never rfl (pi_range1 (by rfl) T.range (pa_cons (pv 2) pa_nil)) (pg_name (i := 5) sc_law_horns.nd rfl (Or.inl rfl)) (pss_cons (ps_set (i := 6) sc_law_horns.nd rfl (Or.inl rfl) (pe_slice (sk_list (K := K) rfl) (pe_call G_law_mixed (hr.mono (by decide)) (by rfl) C_law_mixed.m C_law_mixed.k C_law_mixed.b .nil pass0 (pa_cons (pv 0) (pa_cons (pv 3) pa_nil))) po_none (po_some (pe_call G_law_pick (hr.mono (by decide)) (by rfl) C_law_pick.m C_law_pick.k C_law_pick.b .nil pass0 (pa_cons (pv 0) (pa_cons (pe_lst (pa_cons pe_int (pa_cons pe_int (pa_cons pe_int (pa_cons pe_int (pa_cons pe_int (pa_cons pe_int pa_nil))))))) pa_nil))))))
 (pss_cons (ps_set (i := 7) sc_law_horns.nd rfl (Or.inl rfl) (pe_op op_cat (pe_lc (own := [("k", 8)]) (g := gName 8) rfl sc_law_horns.nd (ik_listI (K := K) rfl (pe_slice (sk_list (K := K) rfl) (pv 6) (po_some pe_int) po_none)) (blkOk_by (own := [("k", 8)]) (N := ["bag", "owners", "many", "letters", "found", "turn", "some", "row", "k"]) (sc := defScope s_law_horns) (by decide +kernel)) (fun _ _ _ _ _ => (pg_name (i := 8) sc_law_horns.nd rfl (Or.inl rfl))) (fun _ _ _ _ _ => pts_nil) (fun _ _ _ _ _ => (pe_un un_neg (pv 8)))) (pe_lc (own := [("k", 8)]) (g := gName 8) rfl sc_law_horns.nd (ik_listI (K := K) rfl (pe_slice (sk_list (K := K) rfl) (pv 6) po_none (po_some pe_int))) (blkOk_by (own := [("k", 8)]) (N := ["bag", "owners", "many", "letters", "found", "turn", "some", "row", "k"]) (sc := defScope s_law_horns) (by decide +kernel)) (fun _ _ _ _ _ => (pg_name (i := 8) sc_law_horns.nd rfl (Or.inl rfl))) (fun _ _ _ _ _ => pts_nil) (fun _ _ _ _ _ => (pe_call G_law_pick (hr.mono (by decide)) (by rfl) C_law_pick.m C_law_pick.k C_law_pick.b .nil pass0 (pa_cons (pv 0) (pa_cons (pe_lst (pa_cons (pv 8) (pa_cons (pv 8) (pa_cons (pe_un un_neg (pv 8)) pa_nil)))) pa_nil)))))))
 (pss_one (ps_expr (pe_bm PySem.F.plainAttrs_list PySem.F.slot_list_append PySem.F.type_list_append mt_append (pv 4) (pa_cons (pe_callTy (c_tuple (K := K) rfl) (by rfl) T.tuple (by decide +kernel) (pa_cons (pe_sortAbs (K := K) rfl hr.units (by rfl) T.sorted (by rfl) T.abs (pa_cons (pv 7) pa_nil)) pa_nil)) pa_nil)))))))
 (pss_one (ps_ret (pe_call G_law_unlike (hr.mono (by decide)) (by rfl) C_law_unlike.m C_law_unlike.k C_law_unlike.b .nil pass0 (pa_cons (pv 4) pa_nil)))))), ?_⟩
    refine rd_start (σ' := [some (.ref d), some (.str z), some (.int many), none, none, none, none, none, none]) rfl ?_
    walk_at "rds"
    refine rd_lenS (by rw [hz.1, sizeLine_eq]; omega) ?_
    rw [hz.1]
    walk_at "rds"
    refine ⟨RgOk.of_le (by omega) (by omega) (by omega) (by omega), fun p hp => ?_⟩
    rw [rgV_ints]
    have g1 := Gl.new (o := .lst ((rgI 1 ((n : Int) + 1)).map V.int)) hD hp
    obtain ⟨pd, pl⟩ := hD.off hp
    walk_at "rds"
    refine ⟨Nat.zero_le _, fun b hb => ?_⟩
    have hb0 := g1.back hD hb
    have npb : p ≠ b := ne_of_none upd_same hb
    obtain ⟨bd, bl⟩ := hD.off hb0
    have g2 := g1.trans (Gl.new (o := .lst []) g1.dk hb)
    have hp2 : (upd (upd H p (.lst ((rgI 1 ((n : Int) + 1)).map V.int))) b (.lst [])) p = some (.lst ((rgI 1 ((n : Int) + 1)).map V.int)) := (upd_ne (ne_of_none upd_same hb)).trans upd_same
    have hletters : ∀ x ∈ rgI 1 ((n : Int) + 1), 1 ≤ x ∧ x ≤ (n : Int) := fun x hx => by
      have := rgI_mem.mp hx
      omega
    have ll : (rgI 1 ((n : Int) + 1)).length = n := by rw [rgI_length]; omega
    generalize rgI 1 ((n : Int) + 1) = letters at hp2 hletters ll g2 g1 hb ⊢
    walk_at "rds"
    refine rd_rng1 (by omega) (by omega) ?_
    refine fr_range (lo := 0) (n := many.toNat) (fun i σ' H' => ∃ (x5 x6 x7 : Option V) (xs : List V) (rs : List (List Int)), σ' = [some (.ref d), some (.str z), some (.int many), some (.ref p), some (.ref b), x5, x6, x7, none] ∧ Gl d l H H' ∧ H' p = some (.lst (letters.map V.int)) ∧
        H' b = some (.lst xs) ∧ DpAll K H' xs (rs.map dR) ∧ HRows n rs ∧ rs.length ≤ i)
      ⟨_, _, _, [], [], rfl, g2, hp2, upd_same, .nil, nofun, Nat.le_refl _⟩ (fun i σ' H3 hi hP => ?_) fun σ' H3 hP => ?_
    · obtain ⟨x5, x6, x7, xs, rs, rfl, g, hp3, hx, hd, hrs, hlen⟩ := hP
      refine rd_start (σ' := [some (.ref d), some (.str z), some (.int many), some (.ref p), some (.ref b), some (.int (0 + (i : Int))), x6, x7, none]) rfl ?_
      walk_at "rds"
      refine ⟨d, l, p, letters, rfl, g.dk, .inl (SqL.of hp3), by omega, fun q1 ms H4 g4 qn hq1 pm => ?_⟩
      obtain ⟨qd, ql⟩ := g.dk.off qn
      walk_at "rds"
      refine ⟨by decide, fun p5 hp5 => ?_⟩
      have g5 := Gl.new (o := .lst [V.int 1, V.int 2, V.int 2, V.int 3, V.int 3, V.int 4]) g4.dk hp5
      refine ⟨d, l, p5, _, rfl, g5.dk, upd_same, (g4.dk.off hp5).1, (g4.dk.off hp5).2, by decide, by decide, fun y H6 g6 hy => ?_⟩
      obtain ⟨k, rfl, k0⟩ : ∃ k : Int, y = .int k ∧ 0 ≤ k := by
        simp only [List.mem_cons, List.not_mem_nil, or_false] at hy
        rcases hy with rfl | rfl | rfl | rfl | rfl | rfl <;> exact ⟨_, rfl, by omega⟩
      have g46 := (g4.trans g5).trans g6
      have hq6 := (g5.trans g6).kp q1 _ qd ql hq1
      walk_at "rds"
      refine rd_slL (SqL.of hq6) fun u hu => ?_
      rw [cut_take k0, ← List.map_take]
      obtain ⟨ud, ul⟩ := g6.dk.off hu
      have g7 := g46.trans (Gl.new (o := .lst ((ms.take k.toNat).map V.int)) g6.dk hu)
      have hsm : ∀ x ∈ ms.take k.toNat, 1 ≤ x ∧ x ≤ (n : Int) := fun x hx => hletters x (pm.mem_iff.mp (List.mem_of_mem_take hx))
      have hsl : (ms.take k.toNat).length ≤ 60 := by
        rw [List.length_take, pm.length_eq]
        omega
      have hu7 : (upd H6 u (.lst ((ms.take k.toNat).map V.int))) u = some (.lst ((ms.take k.toNat).map V.int)) := upd_same
      have hD7 := g7.dk
      clear hq6 hu g46 g6 g5 hp5 hq1 g4 hy
      generalize upd H6 u (.lst ((ms.take k.toNat).map V.int)) = H7 at g7 hu7 hD7 ⊢
      generalize ms.take k.toNat = some_ at hsm hsl hu7 ⊢
      walk_at "rds"
      refine rd_slL (SqL.of hu7) fun u2 hu2 => ?_
      rw [cut_drop (a := 1) (by decide), show (1 : Int).toNat = 1 from rfl, ← List.map_drop]
      have e8 := Evl.Ex.new (o := .lst ((some_.drop 1).map V.int)) hu2
      refine rd_refL (SqL.of upd_same) ?_
      refine lc_fmL (fun _ => true) (fun x => .int (-x)) (σx := fun x => [some (.ref d), some (.str z), some (.int many), some (.ref p), some (.ref b), some (.int (0 + (i : Int))), some (.ref u), x7, some x]) (SqL.of upd_same) (by rw [List.length_drop]; omega) (fun _ => rfl) (fun _ => rfl)
        (fun x hx H' N S e kN kS => ?_) fun D1 H9 e9 eD1 hD1 => ?_
      · walk_at "rds"
        exact kN rfl _ (Evl.Ex.refl _)
      rw [List.filter_eq_self.mpr fun _ _ => rfl] at hD1
      have e89 := e8.trans e9
      walk_at "rds"
      refine rd_slL (SqL.of (e89 _ _ hu7)) fun u3 hu3 => ?_
      rw [cut_take (b := 1) (by decide), show (1 : Int).toNat = 1 from rfl, ← List.map_take]
      have e10 := Evl.Ex.new (o := .lst ((some_.take 1).map V.int)) hu3
      have g10 := Gl.ex (e89.trans e10) hD7
      obtain ⟨u3d, u3l⟩ := (Gl.ex e89 hD7).dk.off hu3
      have hD1n : D1 ≠ d ∧ D1 ≠ l := (Gl.ex e8 hD7).dk.off eD1
      refine rd_refL (SqL.of upd_same) ?_
      refine lc_glL (xs := (some_.take 1).map V.int) (fun i acc => ∃ ts : List Int, acc = ts.map V.int ∧ ts.map Int.natAbs = ((some_.take 1).take i).map Int.natAbs)
        (σx := fun x => [some (.ref d), some (.str z), some (.int many), some (.ref p), some (.ref b), some (.int (0 + (i : Int))), some (.ref u), x7, some x])
        g10.dk (fun H' g => SqL.of (g.kp u3 _ u3d u3l upd_same)) (by rw [List.length_map, List.length_take]; omega) (fun _ => rfl) (fun _ => rfl) ⟨[], rfl, rfl⟩ (fun j x hx acc H8 N S g8 hP kN kS => ?_) fun D2 acc HB gB eD2 hacc hP => ?_
      · obtain ⟨ts, rfl, et⟩ := hP
        rw [List.getElem?_map] at hx
        obtain ⟨t, ht, rfl⟩ := Option.map_eq_some_iff.mp hx
        walk_at "rds"
        refine ⟨(by show 3 ≤ sizeLine; decide), fun p6 hp6 => ?_⟩
        have gA := Gl.new (o := .lst [V.int t, V.int t, V.int (-t)]) g8.dk hp6
        refine ⟨d, l, p6, _, rfl, gA.dk, upd_same, (g8.dk.off hp6).1, (g8.dk.off hp6).2, (by show 1 ≤ 3; decide), (by show 3 ≤ 1000; decide), fun y H9 g9 hy => ?_⟩
        obtain ⟨s2, rfl, es⟩ : ∃ s2 : Int, y = .int s2 ∧ s2.natAbs = t.natAbs := by
          simp only [List.mem_cons, List.not_mem_nil, or_false] at hy
          rcases hy with rfl | rfl | rfl
          · exact ⟨_, rfl, rfl⟩
          · exact ⟨_, rfl, rfl⟩
          · exact ⟨_, rfl, Int.natAbs_neg t⟩
        refine kN _ _ (gA.trans g9) ⟨ts ++ [s2], by rw [List.map_append] <;> rfl, ?_⟩
        rw [List.take_add_one, ht, List.map_append, List.map_append, et]
        show _ ++ [s2.natAbs] = _ ++ [t.natAbs]
        rw [es]
      obtain ⟨ts, rfl, et⟩ := hP
      rw [List.length_map, List.take_of_length_le (Nat.le_refl _)] at et
      have tl : ts.length ≤ 1 := by
        have := congrArg List.length et
        rw [List.length_map, List.length_map, List.length_take] at this
        omega
      have hts : ∀ x ∈ ts, 1 ≤ x.natAbs ∧ x.natAbs ≤ n := fun x hx => by
        have h1 : x.natAbs ∈ (some_.take 1).map Int.natAbs := et ▸ List.mem_map_of_mem hx
        obtain ⟨y, hy, e⟩ := List.mem_map.mp h1
        have := hsm y (List.mem_of_mem_take hy)
        omega
      have hD1B := gB.kp D1 _ hD1n.1 hD1n.2 (e10 _ _ hD1)
      refine rd_catL hD1B hacc (by rw [List.length_map, List.length_map, List.length_drop, sizeLine_eq]; omega) fun u4 hu4 => ?_
      have ec : (some_.drop 1).map (fun x => V.int (-x)) ++ ts.map V.int = ((some_.drop 1).map (fun x => -x) ++ ts).map V.int := by
        rw [List.map_append, List.map_map] <;> rfl
      rw [ec]
      have hcls : Cls n ((some_.drop 1).map (fun x => -x) ++ ts) := ⟨fun x hx => by
        rcases List.mem_append.mp hx with h | h
        · obtain ⟨y, hy, rfl⟩ := List.mem_map.mp h
          have := hsm y (List.mem_of_mem_drop hy)
          rw [Int.natAbs_neg]
          omega
        · exact hts x h, by rw [List.length_append, List.length_map, List.length_drop]; omega⟩
      have hhorn : Horn ((some_.drop 1).map (fun x => -x) ++ ts) := horn_app (fun x hx => by
        obtain ⟨y, hy, rfl⟩ := List.mem_map.mp hx
        have := hsm y (List.mem_of_mem_drop hy)
        omega) tl
      generalize (some_.drop 1).map (fun x => -x) ++ ts = rw_ at hcls hhorn ⊢
      have gC := gB.trans (Gl.new (o := .lst (rw_.map V.int)) gB.dk hu4)
      have gall := (g.trans g7).trans (g10.trans gC)
      walk_at "rds"
      have hxC := (g7.trans (g10.trans gC)).kp b _ bd bl hx
      refine rd_tyL hxC ?_
      walk_at "rds"
      refine rd_sortAbs (SqL.of upd_same) fun us v pu so hv => ?_
      have e11 := Evl.Ex.new (o := .lst (us.map V.int)) hv
      walk_at "rds"
      refine rd_tupL (SqL.of upd_same) fun o ho => ?_
      have e12 := e11.trans (Evl.Ex.new (o := .tup (us.map V.int)) ho)
      have hdE := dpAll_ex e12 _ _ (Gl.rows (g7.trans (g10.trans gC)) g.dk hd)
      have lxs : xs.length = rs.length := by rw [dpAll_len hd, List.length_map]
      walk_at "rds"
      refine rd_append (e12 _ _ hxC) (by omega) ?_
      walk_at "rds"
      refine ⟨_, _, _, xs ++ [.ref o], rs ++ [us], rfl, Gl.mut (gall.trans (Gl.ex e12 gC.dk)) hD hb0, ?_, upd_same, rows_upd (e12 _ _ hxC) (rows_app hdE (dp_of_row (SqT.of upd_same))), hrs.snoc (cls_perm pu hcls) (horn_perm pu hhorn), by rw [List.length_append, List.length_singleton]; omega⟩
      exact (upd_ne npb).trans (e12 _ _ ((g7.trans (g10.trans gC)).kp p _ pd pl hp3))
    · obtain ⟨x5, x6, x7, xs, rs, rfl, g, hp3, hx, hd, hrs, hlen⟩ := hP
      walk_at "rds"
      refine ⟨b, xs, rs, n, rfl, SqL.of hx, hd, fun r hr => (hrs r hr).1, hn, by omega, fun q1 ys ss H4 e4 hq1 hq2 hd2 hsub _ => ?_⟩
      exact q q1 ys ss H4 (g.trans (Gl.ex e4 g.dk)) (g.back hD hq1) hq2 hd2 (fun r hr => hrs r (hsub.subset hr)) (Nat.le_trans hsub.length_le hlen)
end
end KA
set_option Elab.async false
set_option linter.all false
set_option maxRecDepth 100000
set_option maxHeartbeats 400000
set_option pp.maxSteps 300
namespace KA
open PySem PySem.Spec PyProof.Rows L2 Ea
abbrev s_law_steps : Stmt := topS 25
theorem sc_law_steps : FnScope ["bag", "n", "row", "found", "at", "own", "k"] ["bag", "n"] (defScope s_law_steps) :=
  ⟨rfl, rfl, rfl, by decide +kernel, rfl, by decide +kernel, by decide +kernel⟩
abbrev s_law_unhorn : Stmt := topS 27
theorem sc_law_unhorn : FnScope ["bag", "n", "some", "k"] ["bag", "n"] (defScope s_law_unhorn) :=
  ⟨rfl, rfl, rfl, by decide +kernel, rfl, by decide +kernel, by decide +kernel⟩
local macro_rules | `(tactic| walk_at "rd") => `(tactic| first
  | (with_reducible refine rd_seq ?_) | (with_reducible refine rd_asg ?_) | (with_reducible refine rd_if ?_) | (with_reducible refine rd_ret ?_) | (with_reducible refine rd_next ?_)
  | (with_reducible refine rd_drop ?_) | ((with_reducible refine rd_name (σ' := ?ss) ?hs ?_); (case hs => (dsimp only [List.set]; exact rfl)))
  | ((with_reducible refine rd_var (v := ?vv) ?hv ?_); (case hv => exact rfl)) | (with_reducible refine rd_c ?_) | (with_reducible refine rd_op ?_) | (with_reducible refine rd_un ?_)
  | (with_reducible refine rd_I0 ?_) | (with_reducible refine rd_U ?_) | (with_reducible refine rd_test ?_) | (with_reducible refine rd_B ?_) | (with_reducible refine rd_k ?_)
  | (with_reducible refine rd_not ?_) | (with_reducible refine rd_and ?_) | (with_reducible refine rd_or ?_) | (with_reducible refine rd_ifE ?_)
  | (with_reducible refine rd_par ?_) | ((with_reducible refine rd_par2 (σ' := ?ss) ?hs ?_); (case hs => (dsimp only [List.set]; exact rfl)))
  | (with_reducible refine rd_gsub ?_) | (with_reducible refine rd_andV ?_) | (with_reducible refine rd_orV ?_) | (with_reducible refine rd_notV ?_)
  | (with_reducible refine rd_lc ?_) | (with_reducible refine rd_iTup ?_) | (with_reducible refine rd_iList ?_) | (with_reducible refine rd_iRng1 ?_) | (with_reducible refine rd_iRng2 ?_) | (with_reducible refine rd_iEnumT ?_) | (with_reducible refine rd_iEnum ?_) | (with_reducible refine rd_iZipM ?_) | (with_reducible refine rd_iEnumS ?_) | (with_reducible refine rd_iKeys ?_) | (with_reducible refine rd_din ?_) | (with_reducible refine rd_dnotin ?_)
  | (with_reducible refine rd_yes ?_) | (with_reducible refine rd_true ?_) | (with_reducible refine rd_false ?_) | (with_reducible refine rd_m1 ?_) | (with_reducible refine rd_isS ?_)
  | ((with_reducible refine rd_eq ?hs ?_); (case hs => exact rfl)) | ((with_reducible refine rd_ne ?hs ?_); (case hs => exact rfl))
  | (with_reducible refine rd_listRg ?_) | (with_reducible refine rd_rg2 ?_) | (with_reducible refine rd_rgk ?_)
  | (with_reducible refine rd_dnew ?_) | (with_reducible refine rd_ddel ?_) | (with_reducible refine rd_kw ?_) | (with_reducible refine rd_callS ?_) | (with_reducible refine rd_dc ?_) | (with_reducible refine rd_for ?_) | (with_reducible refine rd_tru ?_) | (with_reducible refine rd_truI ?_)
  | (with_reducible refine rd_nil ?_) | (with_reducible refine rd_cons ?_) | (with_reducible refine rd_call ?_) | (with_reducible refine rd_cb ?_)
  | (with_reducible refine rd_tup ?_) | (with_reducible refine rd_lst ?_) | (with_reducible refine rd_dget ?_) | (with_reducible refine rd_dput ?_) | (with_reducible refine rd_dget2 ?_) | (with_reducible refine rd_sl ?_)
  | (with_reducible refine rd_nopart ?_) | (with_reducible refine rd_part ?_) | (with_reducible refine rd_parti ?_) | (with_reducible refine rd_bm ?_) | (with_reducible refine rd_bm0 ?_)
  | (with_reducible refine rd_int ?_) | (with_reducible refine rd_intb ?_) | (with_reducible refine rd_abs ?_) | (with_reducible refine rd_min2 ?_) | (with_reducible refine rd_max2 ?_))
local macro_rules | `(tactic| walk_at "rds") => `(tactic| repeat (walk_at "rd"))
local macro_rules | `(tactic| walk_at "rq") => `(tactic| first
  | (with_reducible refine rd_seq ?_) | (with_reducible refine rd_asg ?_) | (with_reducible refine rd_ret ?_) | (with_reducible refine rd_next ?_)
  | (with_reducible refine rd_drop ?_) | ((with_reducible refine rd_name (σ' := ?ss) ?hs ?_); (case hs => (dsimp only [List.set]; exact rfl)))
  | ((with_reducible refine rd_var (v := ?vv) ?hv ?_); (case hv => exact rfl)) | (with_reducible refine rd_c ?_) | (with_reducible refine rd_op ?_) | (with_reducible refine rd_un ?_)
  | (with_reducible refine rd_I0 ?_) | (with_reducible refine rd_U ?_) | (with_reducible refine rd_test ?_) | (with_reducible refine rd_B ?_) | (with_reducible refine rd_k ?_)
  | (with_reducible refine rd_not ?_) | (with_reducible refine rd_and ?_) | (with_reducible refine rd_or ?_) | (with_reducible refine rd_ifE ?_)
  | (with_reducible refine rd_par ?_) | ((with_reducible refine rd_par2 (σ' := ?ss) ?hs ?_); (case hs => (dsimp only [List.set]; exact rfl)))
  | (with_reducible refine rd_gsub ?_) | (with_reducible refine rd_andV ?_) | (with_reducible refine rd_orV ?_) | (with_reducible refine rd_notV ?_)
  | (with_reducible refine rd_lc ?_) | (with_reducible refine rd_iTup ?_) | (with_reducible refine rd_iList ?_) | (with_reducible refine rd_iRng1 ?_) | (with_reducible refine rd_iRng2 ?_) | (with_reducible refine rd_iEnumT ?_) | (with_reducible refine rd_iEnum ?_) | (with_reducible refine rd_iZipM ?_) | (with_reducible refine rd_iEnumS ?_) | (with_reducible refine rd_iKeys ?_) | (with_reducible refine rd_din ?_) | (with_reducible refine rd_dnotin ?_)
  | (with_reducible refine rd_yes ?_) | (with_reducible refine rd_true ?_) | (with_reducible refine rd_false ?_) | (with_reducible refine rd_m1 ?_) | (with_reducible refine rd_isS ?_)
  | ((with_reducible refine rd_eq ?hs ?_); (case hs => exact rfl)) | ((with_reducible refine rd_ne ?hs ?_); (case hs => exact rfl))
  | (with_reducible refine rd_listRg ?_) | (with_reducible refine rd_rg2 ?_) | (with_reducible refine rd_rgk ?_)
  | (with_reducible refine rd_dnew ?_) | (with_reducible refine rd_ddel ?_) | (with_reducible refine rd_kw ?_) | (with_reducible refine rd_callS ?_) | (with_reducible refine rd_dc ?_) | (with_reducible refine rd_for ?_) | (with_reducible refine rd_tru ?_) | (with_reducible refine rd_truI ?_)
  | (with_reducible refine rd_nil ?_) | (with_reducible refine rd_cons ?_) | (with_reducible refine rd_call ?_) | (with_reducible refine rd_cb ?_)
  | (with_reducible refine rd_tup ?_) | (with_reducible refine rd_lst ?_) | (with_reducible refine rd_dget ?_) | (with_reducible refine rd_dput ?_) | (with_reducible refine rd_dget2 ?_) | (with_reducible refine rd_sl ?_)
  | (with_reducible refine rd_nopart ?_) | (with_reducible refine rd_part ?_) | (with_reducible refine rd_parti ?_) | (with_reducible refine rd_bm ?_) | (with_reducible refine rd_bm0 ?_)
  | (with_reducible refine rd_int ?_) | (with_reducible refine rd_intb ?_) | (with_reducible refine rd_abs ?_) | (with_reducible refine rd_min2 ?_) | (with_reducible refine rd_max2 ?_))
local macro_rules | `(tactic| walk_at "rqs") => `(tactic| repeat (walk_at "rq"))
local macro_rules | `(tactic| walk_at "rv") => `(tactic| first
  | (with_reducible refine rd_seq ?_) | (with_reducible refine rd_asg ?_) | (with_reducible refine rd_ret ?_) | (with_reducible refine rd_next ?_)
  | (with_reducible refine rd_drop ?_) | ((with_reducible refine rd_name (σ' := ?ss) ?hs ?_); (case hs => (dsimp only [List.set]; exact rfl)))
  | ((with_reducible refine rd_var (v := ?vv) ?hv ?_); (case hv => exact rfl)) | (with_reducible refine rd_c ?_) | (with_reducible refine rd_op ?_) | (with_reducible refine rd_un ?_)
  | (with_reducible refine rd_I0 ?_) | (with_reducible refine rd_U ?_) | (with_reducible refine rd_test ?_) | (with_reducible refine rd_B ?_) | (with_reducible refine rd_k ?_)
  | (with_reducible refine rd_not ?_) | (with_reducible refine rd_and ?_) | (with_reducible refine rd_or ?_)
  | (with_reducible refine rd_par ?_) | ((with_reducible refine rd_par2 (σ' := ?ss) ?hs ?_); (case hs => (dsimp only [List.set]; exact rfl)))
  | (with_reducible refine rd_gsub ?_) | (with_reducible refine rd_andV ?_) | (with_reducible refine rd_orV ?_) | (with_reducible refine rd_notV ?_)
  | (with_reducible refine rd_lc ?_) | (with_reducible refine rd_iTup ?_) | (with_reducible refine rd_iList ?_) | (with_reducible refine rd_iRng1 ?_) | (with_reducible refine rd_iRng2 ?_) | (with_reducible refine rd_iEnumT ?_) | (with_reducible refine rd_iEnum ?_) | (with_reducible refine rd_iZipM ?_) | (with_reducible refine rd_iEnumS ?_) | (with_reducible refine rd_iKeys ?_) | (with_reducible refine rd_din ?_) | (with_reducible refine rd_dnotin ?_)
  | (with_reducible refine rd_yes ?_) | (with_reducible refine rd_true ?_) | (with_reducible refine rd_false ?_) | (with_reducible refine rd_m1 ?_) | (with_reducible refine rd_isS ?_)
  | ((with_reducible refine rd_eq ?hs ?_); (case hs => exact rfl)) | ((with_reducible refine rd_ne ?hs ?_); (case hs => exact rfl))
  | (with_reducible refine rd_listRg ?_) | (with_reducible refine rd_rg2 ?_) | (with_reducible refine rd_rgk ?_)
  | (with_reducible refine rd_dnew ?_) | (with_reducible refine rd_ddel ?_) | (with_reducible refine rd_kw ?_) | (with_reducible refine rd_callS ?_) | (with_reducible refine rd_dc ?_) | (with_reducible refine rd_for ?_) | (with_reducible refine rd_tru ?_) | (with_reducible refine rd_truI ?_)
  | (with_reducible refine rd_nil ?_) | (with_reducible refine rd_cons ?_) | (with_reducible refine rd_call ?_) | (with_reducible refine rd_cb ?_)
  | (with_reducible refine rd_tup ?_) | (with_reducible refine rd_lst ?_) | (with_reducible refine rd_dget ?_) | (with_reducible refine rd_dput ?_) | (with_reducible refine rd_dget2 ?_) | (with_reducible refine rd_sl ?_)
  | (with_reducible refine rd_nopart ?_) | (with_reducible refine rd_part ?_) | (with_reducible refine rd_parti ?_) | (with_reducible refine rd_bm ?_) | (with_reducible refine rd_bm0 ?_)
  | (with_reducible refine rd_int ?_) | (with_reducible refine rd_intb ?_) | (with_reducible refine rd_abs ?_) | (with_reducible refine rd_min2 ?_) | (with_reducible refine rd_max2 ?_))
local macro_rules | `(tactic| walk_at "rvs") => `(tactic| repeat (walk_at "rv"))

section
variable {P : Program} {w : World} {K : PySem.W.Frag} {mg : Str → Option Value} {base : Heap}
def spSteps (K : PySem.W.Frag) : Sp := fun vs H Q _ => ∃ (d l : Addr) (n : Nat), vs = [.ref d, .int (n : Int)] ∧ DeckL d l H ∧ n ≤ 60 ∧
  ∀ (q : Addr) (ys : List V) (rs : List (List Int)) (H' : Hp), Gl d l H H' → H q = none → H' q = some (.lst ys) → DpAll K H' ys (rs.map dR) → HRows n rs → rs.length ≤ 60 → Q (.ref q) H'
theorem ok_steps {f fD fM : Addr} {fd fdD fdM : FuncData} (F : Fun K "_law_steps" "_law_steps" s_law_steps f fd) (T : Bl mg)
    (G_law_draw : FnOk P w K mg base CX0 1 fD fdD ["bag", "many"] spDraw) (C_law_draw : Callee K mg "_law_draw" fD fdD ["bag", "many"])
    (G_law_mixed : FnOk P w K mg base CX0 2 fM fdM ["bag", "row"] (spMixed K)) (C_law_mixed : Callee K mg "_law_mixed" fM fdM ["bag", "row"]) :
    FnOk P w K mg base CX0 3 f fd ["bag", "n"] (spSteps K) := by
  refine F.ok sc_law_steps (fun vs H Q E h => ?_) (fun cdv A outer s H vs Q E hr h => ?_)
  · obtain ⟨d, l, n, rfl, _⟩ := h
    rfl
  · obtain ⟨d, l, n, rfl, hD, hn, q⟩ := h
    refine ⟨_, (pss_cons (ps_par (i := 2) (j := 3) rfl sc_law_steps.nd rfl rfl (by decide) rfl rfl (pa_cons (pe_call G_law_mixed (hr.mono (by decide)) (by rfl) C_law_mixed.m C_law_mixed.k C_law_mixed.b .nil pass0 (pa_cons (pv 0) (pa_cons (pe_listRg rfl (by rfl) T.list (prg_2 (by rfl) T.range pe_int (pe_op op_add (pv 1) pe_int))) pa_nil))) (pa_cons (pe_lst pa_nil) pa_nil)) (by rfl))
 (pss_cons (ps_for PassesOwn.never rfl (pi_range1 (by rfl) T.range (pa_cons (pe_callB (c_len (K := K) rfl) (by rfl) T.len (by decide +kernel) (pa_cons (pv 2) pa_nil)) pa_nil)) (pg_name (i := 4) sc_law_steps.nd rfl (Or.inl rfl)) (pss_cons (ps_set (i := 5) sc_law_steps.nd rfl (Or.inl rfl) (pe_op op_cat (pe_lst (pa_cons (pe_ix (ik_list (K := K) rfl) (pv 2) (pv 4) (fun _ _ => rfl)) pa_nil)) (pe_lc (own := [("k", 6)]) (g := gName 6) rfl sc_law_steps.nd (ik_listI (K := K) rfl (pe_slice (sk_list (K := K) rfl) (pv 2) (po_some (pe_callB (c_max2 rfl) (by rfl) T.max (by decide +kernel) (pa_cons pe_int (pa_cons (pe_op op_sub (pv 4) pe_int) pa_nil)))) (po_some (pv 4)))) (blkOk_by (own := [("k", 6)]) (N := ["bag", "n", "row", "found", "at", "own", "k"]) (sc := defScope s_law_steps) (by decide +kernel)) (fun _ _ _ _ _ => (pg_name (i := 6) sc_law_steps.nd rfl (Or.inl rfl))) (fun _ _ _ _ _ => pts_nil) (fun _ _ _ _ _ => (pe_un un_neg (pv 6))))))
 (pss_cons (ps_if (PW.pt (pw_and (pt_cmpR op_gt (pv 4) pe_int (nomark _)) (pw_and1 (pt_cmpR op_eq (pe_call G_law_draw (hr.mono (by decide)) (by rfl) C_law_draw.m C_law_draw.k C_law_draw.b .nil pass0 (pa_cons (pv 0) (pa_cons pe_int pa_nil))) pe_int (nomark _))))) (pss_one (ps_expr (pe_bm PySem.F.plainAttrs_list PySem.F.slot_list_append PySem.F.type_list_append mt_append (pv 5) (pa_cons (pe_un un_neg (pe_ix (ik_list (K := K) rfl) (pv 2) (pe_call G_law_draw (hr.mono (by decide)) (by rfl) C_law_draw.m C_law_draw.k C_law_draw.b .nil pass0 (pa_cons (pv 0) (pa_cons (pe_op op_sub (pv 4) pe_int) pa_nil))) (fun _ _ => rfl))) pa_nil)))) pss_nil)
 (pss_one (ps_expr (pe_bm PySem.F.plainAttrs_list PySem.F.slot_list_append PySem.F.type_list_append mt_append (pv 3) (pa_cons (pe_callTy (c_tuple (K := K) rfl) (by rfl) T.tuple (by decide +kernel) (pa_cons (pe_sortAbs (K := K) rfl hr.units (by rfl) T.sorted (by rfl) T.abs (pa_cons (pv 5) pa_nil)) pa_nil)) pa_nil)))))))
 (pss_one (ps_ret (pv 3))))), ?_⟩
    refine rd_start (σ' := [some (.ref d), some (.int (n : Int)), none, none, none, none, none]) rfl ?_
    walk_at "rds"
    refine ⟨RgOk.of_le (by omega) (by omega) (by omega) (by omega), fun p hp => ?_⟩
    rw [rgV_ints]
    have g1 := Gl.new (o := .lst ((rgI 1 ((n : Int) + 1)).map V.int)) hD hp
    have hletters : ∀ x ∈ rgI 1 ((n : Int) + 1), 1 ≤ x ∧ x ≤ (n : Int) := fun x hx => by
      have := rgI_mem.mp hx
      omega
    have ll : (rgI 1 ((n : Int) + 1)).length = n := by rw [rgI_length]; omega
    generalize rgI 1 ((n : Int) + 1) = letters at hletters ll g1 ⊢
    walk_at "rds"
    refine ⟨d, l, p, letters, rfl, g1.dk, .inl (SqL.of upd_same), by omega, fun q1 ms H4 g4 qn hq1 pm => ?_⟩
    have hms : ∀ x ∈ ms, 1 ≤ x ∧ x ≤ (n : Int) := fun x hx => hletters x (pm.mem_iff.mp hx)
    have lm : ms.length = n := by rw [pm.length_eq, ll]
    have qn0 := g1.back hD qn
    obtain ⟨qd, ql⟩ := hD.off qn0
    have g14 := g1.trans g4
    walk_at "rds"
    refine ⟨Nat.zero_le _, fun b hb => ?_⟩
    have hb0 := g14.back hD hb
    obtain ⟨bd, bl⟩ := hD.off hb0
    have g2 := g14.trans (Gl.new (o := .lst []) g14.dk hb)
    have nqb : q1 ≠ b := ne_of_none hq1 hb
    have hq2 : (upd H4 b (.lst [])) q1 = some (.lst (ms.map V.int)) := (upd_ne nqb).trans hq1
    walk_at "rds"
    refine rd_lenL (SqL.of hq2) ?_
    rw [List.length_map, lm]
    walk_at "rds"
    refine rd_rng1 (by omega) (by omega) ?_
    refine fr_range (lo := 0) (n := ((n : Nat) : Int).toNat) (fun i σ' H' => ∃ (x4 x5 : Option V) (xs : List V) (rs : List (List Int)), σ' = [some (.ref d), some (.int (n : Int)), some (.ref q1), some (.ref b), x4, x5, none] ∧ Gl d l H H' ∧ H' q1 = some (.lst (ms.map V.int)) ∧
        H' b = some (.lst xs) ∧ DpAll K H' xs (rs.map dR) ∧ HRows n rs ∧ rs.length ≤ i)
      ⟨_, _, [], [], rfl, g2, hq2, upd_same, .nil, nofun, Nat.le_refl _⟩ (fun i σ' H3 hi hP => ?_) fun σ' H3 hP => ?_
    · obtain ⟨x4, x5, xs, rs, rfl, g, hq3, hx, hd, hrs, hlen⟩ := hP
      have hi : i < n := by omega
      have hil : i < ms.length := by omega
      have hmi : ms[i]? = some ms[i] := List.getElem?_eq_getElem hil
      have hmr := hms ms[i] (List.mem_of_getElem? hmi)
      generalize ms[i] = mi at hmi hmr
      refine rd_start (σ' := [some (.ref d), some (.int (n : Int)), some (.ref q1), some (.ref b), some (.int (0 + (i : Int))), x5, none]) rfl ?_
      walk_at "rqs"
      refine rd_ixL (SqL.of hq3) (at_nat (k := i) (by omega) (by rw [List.getElem?_map, hmi] <;> rfl)) ?_
      walk_at "rqs"
      refine ⟨(by show 1 ≤ sizeLine; decide), fun p1 hp1 => ?_⟩
      have e1 := Evl.Ex.new (o := .lst [V.int mi]) hp1
      walk_at "rqs"
      refine rd_slL (SqL.of (e1 _ _ hq3)) fun u hu => ?_
      rw [cut_mid (by split <;> omega) (by omega)]
      have e2 := e1.trans (Evl.Ex.new (o := .lst (((ms.map V.int).drop ((if 0 + (i : Int) - 1 > 0 then 0 + (i : Int) - 1 else 0).toNat)).take ((0 + (i : Int)).toNat - (if 0 + (i : Int) - 1 > 0 then 0 + (i : Int) - 1 else 0).toNat))) hu)
      have hal : (if 0 + (i : Int) - 1 > 0 then 0 + (i : Int) - 1 else 0).toNat = i - 1 := by split <;> omega
      rw [hal] at e2 ⊢
      have hbl : (0 + (i : Int)).toNat - (i - 1) ≤ 1 := by omega
      generalize (0 + (i : Int)).toNat - (i - 1) = bl1 at hbl e2 ⊢
      rw [← List.map_drop, ← List.map_take] at e2 ⊢
      have hsub : ∀ x ∈ (ms.drop (i - 1)).take bl1, 1 ≤ x ∧ x ≤ (n : Int) := fun x hx => hms x (List.mem_of_mem_drop (List.mem_of_mem_take hx))
      have hsl : ((ms.drop (i - 1)).take bl1).length ≤ 1 := by rw [List.length_take]; omega
      generalize (ms.drop (i - 1)).take bl1 = near at hsub hsl e2 ⊢
      refine rd_refL (SqL.of upd_same) ?_
      refine lc_fmL (fun _ => true) (fun x => .int (-x)) (σx := fun x => [some (.ref d), some (.int (n : Int)), some (.ref q1), some (.ref b), some (.int (0 + (i : Int))), x5, some x]) (SqL.of upd_same) (by omega) (fun _ => rfl) (fun _ => rfl)
        (fun x hx H' N S e kN kS => ?_) fun D1 H9 e9 eD1 hD1 => ?_
      · walk_at "rds"
        exact kN rfl _ (Evl.Ex.refl _)
      rw [List.filter_eq_self.mpr fun _ _ => rfl] at hD1
      have e29 := e2.trans e9
      have hp9 : H9 p1 = some (.lst [V.int mi]) := e9 _ _ ((upd_ne (ne_of_none upd_same hu)).trans upd_same)
      refine rd_catL hp9 hD1 (by rw [List.length_map, List.length_singleton, sizeLine_eq]; omega) fun u4 hu4 => ?_
      have ec : [V.int mi] ++ near.map (fun x => V.int (-x)) = ([mi] ++ near.map fun x => -x).map V.int := by
        rw [List.map_append, List.map_map] <;> rfl
      rw [ec]
      have g5 := g.trans (Gl.ex (e29.trans (Evl.Ex.new (o := .lst (([mi] ++ near.map fun x => -x).map V.int)) hu4)) g.dk)
      have hx5 : (upd H9 u4 (.lst (([mi] ++ near.map fun x => -x).map V.int))) b = some (.lst xs) := (upd_ne (ne_of_none (e29 _ _ hx) hu4)).trans (e29 _ _ hx)
      have hq5 : (upd H9 u4 (.lst (([mi] ++ near.map fun x => -x).map V.int))) q1 = some (.lst (ms.map V.int)) := (upd_ne (ne_of_none (e29 _ _ hq3) hu4)).trans (e29 _ _ hq3)
      have hd5 : DpAll K (upd H9 u4 (.lst (([mi] ++ near.map fun x => -x).map V.int))) xs (rs.map dR) := dpAll_ex (e29.trans (Evl.Ex.new hu4)) _ _ hd
      have hu40 : H u4 = none := g.back hD (Evl.fresh_back e29 hu4)
      have hu45 : (upd H9 u4 (.lst (([mi] ++ near.map fun x => -x).map V.int))) u4 = some (.lst (([mi] ++ near.map fun x => -x).map V.int)) := upd_same
      have hown : ∃ neg : List Int, ([mi] ++ near.map fun x => -x) = [mi] ++ neg ∧ neg.length ≤ 1 ∧ ∀ x ∈ neg, x < 0 ∧ 1 ≤ x.natAbs ∧ x.natAbs ≤ n := ⟨_, rfl, by rw [List.length_map]; exact hsl, fun x hx => by
        obtain ⟨y, hy, rfl⟩ := List.mem_map.mp hx
        have := hsub y hy
        rw [Int.natAbs_neg]
        omega⟩
      have nub : u4 ≠ b := fun e => by
        rw [e] at hu4
        rw [e29 _ _ hx] at hu4
        cases hu4
      have nuq : u4 ≠ q1 := fun e => by
        rw [e] at hu4
        rw [e29 _ _ hq3] at hu4
        cases hu4
      clear ec hD1 eD1 hp9 e29 e9 e2 e1 hu hp1
      obtain ⟨neg, en, nl, hneg⟩ := hown
      rw [en] at g5 hx5 hq5 hd5 hu45 ⊢
      generalize upd H9 u4 (.lst (([mi] ++ neg).map V.int)) = H5 at g5 hx5 hq5 hd5 hu45 ⊢
      walk_at "rqs"
      refine rd_ifI (fun σ' H' => ∃ neg : List Int, σ' = [some (.ref d), some (.int (n : Int)), some (.ref q1), some (.ref b), some (.int (0 + (i : Int))), some (.ref u4), none] ∧ Gl d l H H' ∧ H' q1 = some (.lst (ms.map V.int)) ∧ H' b = some (.lst xs) ∧ DpAll K H' xs (rs.map dR) ∧ H' u4 = some (.lst (([mi] ++ neg).map V.int)) ∧ neg.length ≤ 2 ∧ ∀ x ∈ neg, x < 0 ∧ 1 ≤ x.natAbs ∧ x.natAbs ≤ n) (fun N kN => ?_) fun σ' H6 hI => ?_
      · have same : ∀ {H' : Hp}, Gl d l H5 H' → N [some (.ref d), some (.int (n : Int)), some (.ref q1), some (.ref b), some (.int (0 + (i : Int))), some (.ref u4), none] H' := fun g' =>
          kN _ _ ⟨neg, rfl, g5.trans g', g'.kp _ _ qd ql hq5, g'.kp _ _ bd bl hx5, Gl.rows g' g5.dk hd5, g'.kp _ _ (hD.off hu40).1 (hD.off hu40).2 hu45, by omega, hneg⟩
        walk_at "rds"
        refine rd_ite (fun c1 => ?_) (fun c1 => ?_)
        · walk_at "rds"
          refine ⟨d, l, 3, rfl, g5.dk, by decide, by decide, fun r H6 g6 r0 r1 => ?_⟩
          walk_at "rds"
          refine rd_ite (fun c2 => ?_) (fun c2 => ?_)
          · walk_at "rds"
            have hu46 := g6.kp _ _ (hD.off hu40).1 (hD.off hu40).2 hu45
            refine rd_tyL hu46 ?_
            walk_at "rds"
            refine ⟨d, l, _, rfl, g6.dk, by omega, by omega, fun r2 H7 g7 s0 s1 => ?_⟩
            have g67 := g6.trans g7
            have hq7 := g67.kp _ _ qd ql hq5
            have hx7 := g67.kp _ _ bd bl hx5
            have hu47 := g67.kp _ _ (hD.off hu40).1 (hD.off hu40).2 hu45
            have hr2 : r2.toNat < ms.length := by omega
            have hmr2 := hms ms[r2.toNat] (List.getElem_mem hr2)
            walk_at "rds"
            refine rd_ixL (SqL.of hq7) (at_nat (k := r2.toNat) (by omega) (by rw [List.getElem?_map, List.getElem?_eq_getElem hr2] <;> rfl)) ?_
            generalize ms[r2.toNat] = m2 at hmr2
            walk_at "rds"
            refine rd_append hu47 (by rw [List.length_map, List.length_append, List.length_singleton]; omega) ?_
            walk_at "rds"
            refine kN _ _ ⟨neg ++ [-m2], rfl, Gl.mut (g5.trans g67) hD hu40, (upd_ne nuq.symm).trans hq7, (upd_ne nub.symm).trans hx7, rows_upd hu47 (Gl.rows g67 g5.dk hd5), ?_, by rw [List.length_append, List.length_singleton]; omega, fun x hx => ?_⟩
            · rw [upd_same, ← List.append_assoc, List.map_append (l₁ := [mi] ++ neg)] <;> rfl
            · rcases List.mem_append.mp hx with h | h
              · exact hneg x h
              · rw [List.mem_singleton.mp h, Int.natAbs_neg]
                omega
          · exact same g6
        · exact same (Gl.refl g5.dk)
      clear hneg nl hu45 hd5 hq5 hx5 g5 en
      obtain ⟨neg, rfl, g6, hq6, hx6, hd6, hu46, nl, hneg⟩ := hI
      have hcls : Cls n ([mi] ++ neg) := ⟨fun x hx => by
        rcases List.mem_append.mp hx with h | h
        · rw [List.mem_singleton.mp h]
          omega
        · exact (hneg x h).2, by rw [List.length_append, List.length_singleton]; omega⟩
      have hhorn : Horn ([mi] ++ neg) := horn_perm List.perm_append_comm (horn_app (fun x hx => (hneg x hx).1) (Nat.le_refl _))
      generalize [mi] ++ neg = own at hu46 hcls hhorn
      walk_at "rds"
      refine rd_tyL hx6 ?_
      walk_at "rds"
      refine rd_sortAbs (SqL.of hu46) fun us v pu so hv => ?_
      have e11 := Evl.Ex.new (o := .lst (us.map V.int)) hv
      walk_at "rds"
      refine rd_tupL (SqL.of upd_same) fun o ho => ?_
      have e12 := e11.trans (Evl.Ex.new (o := .tup (us.map V.int)) ho)
      walk_at "rds"
      have lxs : xs.length = rs.length := by rw [dpAll_len hd, List.length_map]
      refine rd_append (e12 _ _ hx6) (by omega) ?_
      walk_at "rds"
      exact ⟨_, _, xs ++ [.ref o], rs ++ [us], rfl, Gl.mut (g6.trans (Gl.ex e12 g6.dk)) hD hb0, (upd_ne nqb).trans (e12 _ _ hq6), upd_same, rows_upd (e12 _ _ hx6) (rows_app (dpAll_ex e12 _ _ hd6) (dp_of_row (SqT.of upd_same))), hrs.snoc (cls_perm pu hcls) (horn_perm pu hhorn), by rw [List.length_append, List.length_singleton]; omega⟩
    · obtain ⟨x4, x5, xs, rs, rfl, g, hq3, hx, hd, hrs, hlen⟩ := hP
      walk_at "rds"
      exact q b xs rs H3 g hb0 hx hd hrs (by omega)
def spUnhorn (K : PySem.W.Frag) : Sp := fun vs H Q _ => ∃ (d l : Addr) (n : Nat), vs = [.ref d, .int (n : Int)] ∧ DeckL d l H ∧ n ≤ 60 ∧ 2 ≤ n ∧
  ∀ (q : Addr) (r : List Int) (H' : Hp), Gl d l H H' → SqT K H' q (r.map V.int) → Cls n r → ¬ Horn r → Q (.ref q) H'
theorem ok_unhorn {f fD fP fM : Addr} {fd fdD fdP fdM : FuncData} (F : Fun K "_law_unhorn" "_law_unhorn" s_law_unhorn f fd) (T : Bl mg)
    (G_law_draw : FnOk P w K mg base CX0 1 fD fdD ["bag", "many"] spDraw) (C_law_draw : Callee K mg "_law_draw" fD fdD ["bag", "many"])
    (G_law_pick : FnOk P w K mg base CX0 2 fP fdP ["bag", "row"] spPick) (C_law_pick : Callee K mg "_law_pick" fP fdP ["bag", "row"])
    (G_law_mixed : FnOk P w K mg base CX0 2 fM fdM ["bag", "row"] (spMixed K)) (C_law_mixed : Callee K mg "_law_mixed" fM fdM ["bag", "row"]) :
    FnOk P w K mg base CX0 3 f fd ["bag", "n"] (spUnhorn K) := by
  refine F.ok sc_law_unhorn (fun vs H Q E h => ?_) (fun cdv A outer s H vs Q E hr h => ?_)
  · obtain ⟨d, l, n, rfl, _⟩ := h
    rfl
  · obtain ⟨d, l, n, rfl, hD, hn, hn2, q⟩ := h
    refine ⟨_, (pss_cons (ps_set (i := 2) sc_law_unhorn.nd rfl (Or.inl rfl) (pe_slice (sk_list (K := K) rfl) (pe_call G_law_mixed (hr.mono (by decide)) (by rfl) C_law_mixed.m C_law_mixed.k C_law_mixed.b .nil pass0 (pa_cons (pv 0) (pa_cons (pe_listRg rfl (by rfl) T.list (prg_2 (by rfl) T.range pe_int (pe_op op_add (pv 1) pe_int))) pa_nil))) po_none (po_some (pe_op op_add pe_int (pe_call G_law_draw (hr.mono (by decide)) (by rfl) C_law_draw.m C_law_draw.k C_law_draw.b .nil pass0 (pa_cons (pv 0) (pa_cons pe_int pa_nil)))))))
 (pss_one (ps_ret (pe_callTy (c_tuple (K := K) rfl) (by rfl) T.tuple (by decide +kernel) (pa_cons (pe_sortAbs (K := K) rfl hr.units (by rfl) T.sorted (by rfl) T.abs (pa_cons (pe_op op_cat (pe_slice (sk_list (K := K) rfl) (pv 2) po_none (po_some pe_int)) (pe_lc (own := [("k", 3)]) (g := gName 3) rfl sc_law_unhorn.nd (ik_listI (K := K) rfl (pe_slice (sk_list (K := K) rfl) (pv 2) (po_some pe_int) po_none)) (blkOk_by (own := [("k", 3)]) (N := ["bag", "n", "some", "k"]) (sc := defScope s_law_unhorn) (by decide +kernel)) (fun _ _ _ _ _ => (pg_name (i := 3) sc_law_unhorn.nd rfl (Or.inl rfl))) (fun _ _ _ _ _ => pts_nil) (fun _ _ _ _ _ => (pe_op op_mul (pv 3) (pe_call G_law_pick (hr.mono (by decide)) (by rfl) C_law_pick.m C_law_pick.k C_law_pick.b .nil pass0 (pa_cons (pv 0) (pa_cons (pe_lst (pa_cons pe_int (pa_cons (pe_un un_neg pe_int) pa_nil))) pa_nil))))))) pa_nil)) pa_nil))))), ?_⟩
    refine rd_start (σ' := [some (.ref d), some (.int (n : Int)), none, none]) rfl ?_
    walk_at "rds"
    refine ⟨RgOk.of_le (by omega) (by omega) (by omega) (by omega), fun p hp => ?_⟩
    rw [rgV_ints]
    have g1 := Gl.new (o := .lst ((rgI 1 ((n : Int) + 1)).map V.int)) hD hp
    have hletters : ∀ x ∈ rgI 1 ((n : Int) + 1), 1 ≤ x ∧ x ≤ (n : Int) := fun x hx => by
      have := rgI_mem.mp hx
      omega
    have ll : (rgI 1 ((n : Int) + 1)).length = n := by rw [rgI_length]; omega
    generalize rgI 1 ((n : Int) + 1) = letters at hletters ll g1 ⊢
    walk_at "rds"
    refine ⟨d, l, p, letters, rfl, g1.dk, .inl (SqL.of upd_same), by omega, fun q1 ms H4 g4 qn hq1 pm => ?_⟩
    have hms : ∀ x ∈ ms, 1 ≤ x ∧ x ≤ (n : Int) := fun x hx => hletters x (pm.mem_iff.mp hx)
    have lm : ms.length = n := by rw [pm.length_eq, ll]
    obtain ⟨qd, ql⟩ := g1.dk.off qn
    have g14 := g1.trans g4
    walk_at "rds"
    refine ⟨d, l, 3, rfl, g14.dk, by decide, by decide, fun r H5 g5 r0 r1 => ?_⟩
    have hq5 := g5.kp _ _ qd ql hq1
    walk_at "rds"
    refine rd_slL (SqL.of hq5) fun u hu => ?_
    rw [cut_take (by omega), ← List.map_take]
    obtain ⟨ud, ul⟩ := g5.dk.off hu
    have g6 := (g14.trans g5).trans (Gl.new (o := .lst ((ms.take (2 + r).toNat).map V.int)) g5.dk hu)
    obtain ⟨m1, m2, mt, em⟩ : ∃ m1 m2 mt, ms.take (2 + r).toNat = m1 :: m2 :: mt := by
      have e : (2 + r).toNat = r.toNat + 2 := by omega
      rw [e]
      match ms, lm with
      | m1 :: m2 :: t, _ => exact ⟨m1, m2, t.take r.toNat, rfl⟩
      | [_], h => rw [List.length_singleton] at h; omega
      | [], h => rw [List.length_nil] at h; omega
    have hsm : ∀ x ∈ m1 :: m2 :: mt, 1 ≤ x ∧ x ≤ (n : Int) := fun x hx => hms x (List.mem_of_mem_take (em ▸ hx))
    have hsl : (m1 :: m2 :: mt).length ≤ 60 := by
      rw [← em, List.length_take]
      omega
    rw [em] at g6 ⊢
    have hu6 : (upd H5 u (.lst ((m1 :: m2 :: mt).map V.int))) u = some (.lst ((m1 :: m2 :: mt).map V.int)) := upd_same
    generalize upd H5 u (.lst ((m1 :: m2 :: mt).map V.int)) = H6 at g6 hu6 ⊢
    walk_at "rds"
    refine rd_slL (SqL.of hu6) fun u2 hu2 => ?_
    rw [cut_take (b := 2) (by decide), show (2 : Int).toNat = 2 from rfl]
    have e7 := Evl.Ex.new (o := .lst (((m1 :: m2 :: mt).map V.int).take 2)) hu2
    have g7 := g6.trans (Gl.ex e7 g6.dk)
    obtain ⟨u2d, u2l⟩ := g6.dk.off hu2
    walk_at "rds"
    refine rd_slL (SqL.of (e7 _ _ hu6)) fun u3 hu3 => ?_
    rw [cut_drop (a := 2) (by decide), show (2 : Int).toNat = 2 from rfl, ← List.map_drop]
    have hdr : (m1 :: m2 :: mt).drop 2 = mt := rfl
    rw [hdr]
    have g8 := g7.trans (Gl.new (o := .lst (mt.map V.int)) g7.dk hu3)
    obtain ⟨u3d, u3l⟩ := g7.dk.off hu3
    have hu28 : (upd (upd H6 u2 (.lst (((m1 :: m2 :: mt).map V.int).take 2))) u3 (.lst (mt.map V.int))) u2 = some (.lst (((m1 :: m2 :: mt).map V.int).take 2)) := (upd_ne (ne_of_none upd_same hu3)).trans upd_same
    refine rd_refL (SqL.of upd_same) ?_
    refine lc_glL (xs := mt.map V.int) (fun i acc => ∃ ts : List Int, acc = ts.map V.int ∧ ts.map Int.natAbs = (mt.take i).map Int.natAbs)
      (σx := fun x => [some (.ref d), some (.int (n : Int)), some (.ref u), some x])
      g8.dk (fun H' g => SqL.of (g.kp u3 _ u3d u3l upd_same)) (by rw [List.length_map]; rw [List.length_cons, List.length_cons] at hsl; omega) (fun _ => rfl) (fun _ => rfl) ⟨[], rfl, rfl⟩ (fun j x hx acc H8 N S g9 hP kN kS => ?_) fun D2 acc HB gB eD2 hacc hP => ?_
    · obtain ⟨ts, rfl, et⟩ := hP
      rw [List.getElem?_map] at hx
      obtain ⟨t, ht, rfl⟩ := Option.map_eq_some_iff.mp hx
      walk_at "rds"
      refine ⟨(by show 2 ≤ sizeLine; decide), fun p6 hp6 => ?_⟩
      have gA := Gl.new (o := .lst [V.int 1, V.int (-1)]) g9.dk hp6
      refine ⟨d, l, p6, _, rfl, gA.dk, upd_same, (g9.dk.off hp6).1, (g9.dk.off hp6).2, by decide, by decide, fun y H9 g9' hy => ?_⟩
      obtain ⟨s2, rfl, hs⟩ : ∃ s2 : Int, y = .int s2 ∧ (s2 = 1 ∨ s2 = -1) := by
        simp only [List.mem_cons, List.not_mem_nil, or_false] at hy
        rcases hy with rfl | rfl
        · exact ⟨_, rfl, .inl rfl⟩
        · exact ⟨_, rfl, .inr rfl⟩
      walk_at "rds"
      refine rd_I (by rcases hs with rfl | rfl <;> exact .inr ⟨by decide, by decide⟩) ?_
      refine kN _ _ (gA.trans g9') ⟨ts ++ [t * s2], by rw [List.map_append] <;> rfl, ?_⟩
      rw [List.take_add_one, ht, List.map_append, List.map_append, et]
      show _ ++ [(t * s2).natAbs] = _ ++ [t.natAbs]
      have es : (t * s2).natAbs = t.natAbs := by
        rw [Int.natAbs_mul]
        rcases hs with rfl | rfl <;> exact Nat.mul_one _
      rw [es]
    obtain ⟨ts, rfl, et⟩ := hP
    rw [List.length_map, List.take_of_length_le (Nat.le_refl _)] at et
    have tl : ts.length = mt.length := by
      have := congrArg List.length et
      rw [List.length_map, List.length_map] at this
      exact this
    have hts : ∀ x ∈ ts, 1 ≤ x.natAbs ∧ x.natAbs ≤ n := fun x hx => by
      have h1 : x.natAbs ∈ mt.map Int.natAbs := et ▸ List.mem_map_of_mem hx
      obtain ⟨y, hy, e⟩ := List.mem_map.mp h1
      have := hsm y (List.mem_cons_of_mem _ (List.mem_cons_of_mem _ hy))
      omega
    have hu2B := gB.kp u2 _ u2d u2l hu28
    rw [List.length_cons, List.length_cons] at hsl
    have e2 : ((m1 :: m2 :: mt).map V.int).take 2 = [m1, m2].map V.int := rfl
    rw [e2] at hu2B
    refine rd_catL hu2B hacc (by rw [List.length_map, List.length_map, sizeLine_eq]; show 2 + _ ≤ _; omega) fun u4 hu4 => ?_
    rw [← List.map_append]
    have gC := gB.trans (Gl.new (o := .lst (([m1, m2] ++ ts).map V.int)) gB.dk hu4)
    have hm1 := hsm m1 List.mem_cons_self
    have hm2 := hsm m2 (List.mem_cons_of_mem _ List.mem_cons_self)
    have hcls : Cls n ([m1, m2] ++ ts) := ⟨fun x hx => by
      rcases List.mem_append.mp hx with h | h
      · rcases List.mem_cons.mp h with rfl | h
        · omega
        · rw [List.mem_singleton.mp h]
          omega
      · exact hts x h, by rw [List.length_append]; show 2 + _ ≤ _; omega⟩
    have hun : ¬ Horn ([m1, m2] ++ ts) := fun h => by
      have h : (([m1, m2] ++ ts).filter fun x => decide (0 < x)).length ≤ 1 := h
      have e3 : (([m1, m2] ++ ts).filter fun x => decide (0 < x)) = m1 :: m2 :: (ts.filter fun x => decide (0 < x)) := by
        show ((m1 :: m2 :: ts).filter fun x => decide (0 < x)) = _
        have c1 : decide (0 < m1) = true := decide_eq_true (by omega)
        have c2 : decide (0 < m2) = true := decide_eq_true (by omega)
        rw [List.filter_cons, if_pos c1, List.filter_cons, if_pos c2]
      rw [e3, List.length_cons, List.length_cons] at h
      omega
    walk_at "rds"
    refine rd_sortAbs (SqL.of upd_same) fun us v pu so hv => ?_
    have e11 := Evl.Ex.new (o := .lst (us.map V.int)) hv
    walk_at "rds"
    refine rd_tupL (SqL.of upd_same) fun o ho => ?_
    have e12 := e11.trans (Evl.Ex.new (o := .tup (us.map V.int)) ho)
    exact q o us _ ((g8.trans gC).trans (Gl.ex e12 gC.dk)) (SqT.of upd_same) (cls_perm pu hcls) fun h => hun (horn_perm pu.symm h)
end
end KA
set_option Elab.async false
set_option linter.all false
set_option maxRecDepth 100000
set_option maxHeartbeats 400000
set_option pp.maxSteps 300
namespace KA
open PySem PySem.Spec PyProof.Rows L2 Ea
abbrev s_law_heard : Stmt := topS 24
theorem sc_law_heard : FnScope ["sentence", "u", "is_named", "refused"] ["sentence", "u", "is_named"] (defScope s_law_heard) :=
  ⟨rfl, rfl, rfl, by decide +kernel, rfl, by decide +kernel, by decide +kernel⟩
abbrev s_law_is_right : Stmt := topS 26
theorem sc_law_is_right : FnScope ["bag", "owners", "clauses", "many", "sentence", "n", "known", "whole", "menu", "nth", "u", "due", "k", "x"] ["bag", "owners", "clauses", "many"] (defScope s_law_is_right) :=
  ⟨rfl, rfl, rfl, by decide +kernel, rfl, by decide +kernel, by decide +kernel⟩
local macro_rules | `(tactic| walk_at "rd") => `(tactic| first
  | (with_reducible refine rd_seq ?_) | (with_reducible refine rd_asg ?_) | (with_reducible refine rd_if ?_) | (with_reducible refine rd_ret ?_) | (with_reducible refine rd_next ?_)
  | (with_reducible refine rd_drop ?_) | ((with_reducible refine rd_name (σ' := ?ss) ?hs ?_); (case hs => (dsimp only [List.set]; exact rfl)))
  | ((with_reducible refine rd_var (v := ?vv) ?hv ?_); (case hv => exact rfl)) | (with_reducible refine rd_c ?_) | (with_reducible refine rd_op ?_) | (with_reducible refine rd_un ?_)
  | (with_reducible refine rd_I0 ?_) | (with_reducible refine rd_U ?_) | (with_reducible refine rd_test ?_) | (with_reducible refine rd_B ?_) | (with_reducible refine rd_k ?_)
  | (with_reducible refine rd_not ?_) | (with_reducible refine rd_and ?_) | (with_reducible refine rd_or ?_) | (with_reducible refine rd_ifE ?_)
  | (with_reducible refine rd_par ?_) | ((with_reducible refine rd_par2 (σ' := ?ss) ?hs ?_); (case hs => (dsimp only [List.set]; exact rfl)))
  | (with_reducible refine rd_gsub ?_) | (with_reducible refine rd_andV ?_) | (with_reducible refine rd_orV ?_) | (with_reducible refine rd_notV ?_)
  | (with_reducible refine rd_lc ?_) | (with_reducible refine rd_iTup ?_) | (with_reducible refine rd_iList ?_) | (with_reducible refine rd_iRng1 ?_) | (with_reducible refine rd_iRng2 ?_) | (with_reducible refine rd_iEnumT ?_) | (with_reducible refine rd_iEnum ?_) | (with_reducible refine rd_iZipM ?_) | (with_reducible refine rd_iEnumS ?_) | (with_reducible refine rd_iKeys ?_) | (with_reducible refine rd_din ?_) | (with_reducible refine rd_dnotin ?_)
  | (with_reducible refine rd_yes ?_) | (with_reducible refine rd_true ?_) | (with_reducible refine rd_false ?_) | (with_reducible refine rd_m1 ?_) | (with_reducible refine rd_isS ?_)
  | ((with_reducible refine rd_eq ?hs ?_); (case hs => exact rfl)) | ((with_reducible refine rd_ne ?hs ?_); (case hs => exact rfl))
  | (with_reducible refine rd_listRg ?_) | (with_reducible refine rd_rg2 ?_) | (with_reducible refine rd_rgk ?_)
  | (with_reducible refine rd_dnew ?_) | (with_reducible refine rd_ddel ?_) | (with_reducible refine rd_kw ?_) | (with_reducible refine rd_callS ?_) | (with_reducible refine rd_dc ?_) | (with_reducible refine rd_for ?_) | (with_reducible refine rd_tru ?_) | (with_reducible refine rd_truI ?_)
  | (with_reducible refine rd_nil ?_) | (with_reducible refine rd_cons ?_) | (with_reducible refine rd_call ?_) | (with_reducible refine rd_cb ?_)
  | (with_reducible refine rd_tup ?_) | (with_reducible refine rd_lst ?_) | (with_reducible refine rd_dget ?_) | (with_reducible refine rd_dput ?_) | (with_reducible refine rd_dget2 ?_) | (with_reducible refine rd_sl ?_)
  | (with_reducible refine rd_nopart ?_) | (with_reducible refine rd_part ?_) | (with_reducible refine rd_parti ?_) | (with_reducible refine rd_bm ?_) | (with_reducible refine rd_bm0 ?_)
  | (with_reducible refine rd_int ?_) | (with_reducible refine rd_intb ?_) | (with_reducible refine rd_abs ?_) | (with_reducible refine rd_min2 ?_) | (with_reducible refine rd_max2 ?_))
local macro_rules | `(tactic| walk_at "rds") => `(tactic| repeat (walk_at "rd"))
local macro_rules | `(tactic| walk_at "rq") => `(tactic| first
  | (with_reducible refine rd_seq ?_) | (with_reducible refine rd_asg ?_) | (with_reducible refine rd_ret ?_) | (with_reducible refine rd_next ?_)
  | (with_reducible refine rd_drop ?_) | ((with_reducible refine rd_name (σ' := ?ss) ?hs ?_); (case hs => (dsimp only [List.set]; exact rfl)))
  | ((with_reducible refine rd_var (v := ?vv) ?hv ?_); (case hv => exact rfl)) | (with_reducible refine rd_c ?_) | (with_reducible refine rd_op ?_) | (with_reducible refine rd_un ?_)
  | (with_reducible refine rd_I0 ?_) | (with_reducible refine rd_U ?_) | (with_reducible refine rd_test ?_) | (with_reducible refine rd_B ?_) | (with_reducible refine rd_k ?_)
  | (with_reducible refine rd_not ?_) | (with_reducible refine rd_and ?_) | (with_reducible refine rd_or ?_) | (with_reducible refine rd_ifE ?_)
  | (with_reducible refine rd_par ?_) | ((with_reducible refine rd_par2 (σ' := ?ss) ?hs ?_); (case hs => (dsimp only [List.set]; exact rfl)))
  | (with_reducible refine rd_gsub ?_) | (with_reducible refine rd_andV ?_) | (with_reducible refine rd_orV ?_) | (with_reducible refine rd_notV ?_)
  | (with_reducible refine rd_lc ?_) | (with_reducible refine rd_iTup ?_) | (with_reducible refine rd_iList ?_) | (with_reducible refine rd_iRng1 ?_) | (with_reducible refine rd_iRng2 ?_) | (with_reducible refine rd_iEnumT ?_) | (with_reducible refine rd_iEnum ?_) | (with_reducible refine rd_iZipM ?_) | (with_reducible refine rd_iEnumS ?_) | (with_reducible refine rd_iKeys ?_) | (with_reducible refine rd_din ?_) | (with_reducible refine rd_dnotin ?_)
  | (with_reducible refine rd_yes ?_) | (with_reducible refine rd_true ?_) | (with_reducible refine rd_false ?_) | (with_reducible refine rd_m1 ?_) | (with_reducible refine rd_isS ?_)
  | ((with_reducible refine rd_eq ?hs ?_); (case hs => exact rfl)) | ((with_reducible refine rd_ne ?hs ?_); (case hs => exact rfl))
  | (with_reducible refine rd_listRg ?_) | (with_reducible refine rd_rg2 ?_) | (with_reducible refine rd_rgk ?_)
  | (with_reducible refine rd_dnew ?_) | (with_reducible refine rd_ddel ?_) | (with_reducible refine rd_kw ?_) | (with_reducible refine rd_callS ?_) | (with_reducible refine rd_dc ?_) | (with_reducible refine rd_for ?_) | (with_reducible refine rd_tru ?_) | (with_reducible refine rd_truI ?_)
  | (with_reducible refine rd_nil ?_) | (with_reducible refine rd_cons ?_) | (with_reducible refine rd_call ?_) | (with_reducible refine rd_cb ?_)
  | (with_reducible refine rd_tup ?_) | (with_reducible refine rd_lst ?_) | (with_reducible refine rd_dget ?_) | (with_reducible refine rd_dput ?_) | (with_reducible refine rd_dget2 ?_) | (with_reducible refine rd_sl ?_)
  | (with_reducible refine rd_nopart ?_) | (with_reducible refine rd_part ?_) | (with_reducible refine rd_parti ?_) | (with_reducible refine rd_bm ?_) | (with_reducible refine rd_bm0 ?_)
  | (with_reducible refine rd_int ?_) | (with_reducible refine rd_intb ?_) | (with_reducible refine rd_abs ?_) | (with_reducible refine rd_min2 ?_) | (with_reducible refine rd_max2 ?_))
local macro_rules | `(tactic| walk_at "rqs") => `(tactic| repeat (walk_at "rq"))
local macro_rules | `(tactic| walk_at "rv") => `(tactic| first
  | (with_reducible refine rd_seq ?_) | (with_reducible refine rd_asg ?_) | (with_reducible refine rd_ret ?_) | (with_reducible refine rd_next ?_)
  | (with_reducible refine rd_drop ?_) | ((with_reducible refine rd_name (σ' := ?ss) ?hs ?_); (case hs => (dsimp only [List.set]; exact rfl)))
  | ((with_reducible refine rd_var (v := ?vv) ?hv ?_); (case hv => exact rfl)) | (with_reducible refine rd_c ?_) | (with_reducible refine rd_op ?_) | (with_reducible refine rd_un ?_)
  | (with_reducible refine rd_I0 ?_) | (with_reducible refine rd_U ?_) | (with_reducible refine rd_test ?_) | (with_reducible refine rd_B ?_) | (with_reducible refine rd_k ?_)
  | (with_reducible refine rd_not ?_) | (with_reducible refine rd_and ?_) | (with_reducible refine rd_or ?_)
  | (with_reducible refine rd_par ?_) | ((with_reducible refine rd_par2 (σ' := ?ss) ?hs ?_); (case hs => (dsimp only [List.set]; exact rfl)))
  | (with_reducible refine rd_gsub ?_) | (with_reducible refine rd_andV ?_) | (with_reducible refine rd_orV ?_) | (with_reducible refine rd_notV ?_)
  | (with_reducible refine rd_lc ?_) | (with_reducible refine rd_iTup ?_) | (with_reducible refine rd_iList ?_) | (with_reducible refine rd_iRng1 ?_) | (with_reducible refine rd_iRng2 ?_) | (with_reducible refine rd_iEnumT ?_) | (with_reducible refine rd_iEnum ?_) | (with_reducible refine rd_iZipM ?_) | (with_reducible refine rd_iEnumS ?_) | (with_reducible refine rd_iKeys ?_) | (with_reducible refine rd_din ?_) | (with_reducible refine rd_dnotin ?_)
  | (with_reducible refine rd_yes ?_) | (with_reducible refine rd_true ?_) | (with_reducible refine rd_false ?_) | (with_reducible refine rd_m1 ?_) | (with_reducible refine rd_isS ?_)
  | ((with_reducible refine rd_eq ?hs ?_); (case hs => exact rfl)) | ((with_reducible refine rd_ne ?hs ?_); (case hs => exact rfl))
  | (with_reducible refine rd_listRg ?_) | (with_reducible refine rd_rg2 ?_) | (with_reducible refine rd_rgk ?_)
  | (with_reducible refine rd_dnew ?_) | (with_reducible refine rd_ddel ?_) | (with_reducible refine rd_kw ?_) | (with_reducible refine rd_callS ?_) | (with_reducible refine rd_dc ?_) | (with_reducible refine rd_for ?_) | (with_reducible refine rd_tru ?_) | (with_reducible refine rd_truI ?_)
  | (with_reducible refine rd_nil ?_) | (with_reducible refine rd_cons ?_) | (with_reducible refine rd_call ?_) | (with_reducible refine rd_cb ?_)
  | (with_reducible refine rd_tup ?_) | (with_reducible refine rd_lst ?_) | (with_reducible refine rd_dget ?_) | (with_reducible refine rd_dput ?_) | (with_reducible refine rd_dget2 ?_) | (with_reducible refine rd_sl ?_)
  | (with_reducible refine rd_nopart ?_) | (with_reducible refine rd_part ?_) | (with_reducible refine rd_parti ?_) | (with_reducible refine rd_bm ?_) | (with_reducible refine rd_bm0 ?_)
  | (with_reducible refine rd_int ?_) | (with_reducible refine rd_intb ?_) | (with_reducible refine rd_abs ?_) | (with_reducible refine rd_min2 ?_) | (with_reducible refine rd_max2 ?_))
local macro_rules | `(tactic| walk_at "rvs") => `(tactic| repeat (walk_at "rv"))

def HeardY (n : Nat) (z : Str) (rs : List (List Int)) (u : Int) (d : PyData) : Prop := (Asked n z rs u ∧ ∃ ys, YesT n z rs u ys ∧ d = .list [.str "told", .tuple (dI ys)]) ∨ (¬ Asked n z rs u ∧ d = .list [.str "unfit", .bool true])
theorem nice_told : Nice 4 0 (.str "told") := Nice.str (by decide) (by decide) (by first | decide | decide +kernel | kernel_rfl | simp [PyData.canLay0])
theorem nice_unfit : Nice 5 0 (.str "unfit") := Nice.str (by decide) (by decide) (by first | decide | decide +kernel | kernel_rfl | simp [PyData.canLay0])
theorem nice_yes {n : Nat} {z : Str} {rs : List (List Int)} {u : Int} {ys : List Int} (h : YesT n z rs u ys) (hn : n ≤ 60) : Nice 60 1 (.tuple (dI ys)) :=
  (Nice.tup (NiceAll.ints fun x hx => by
    have := h.rng x hx
    have : (10 : Nat) ^ 12 = 1000000000000 := by decide
    omega)).mono (by have := h.len; omega) (Nat.le_refl _)
theorem nice_toldy {n : Nat} {z : Str} {rs : List (List Int)} {u : Int} {ys : List Int} (h : YesT n z rs u ys) (hn : n ≤ 60) : Nice 70 2 (.list [.str "told", .tuple (dI ys)]) :=
  (Nice.lst ((nice_told.mono (Nat.le_refl 4) (by decide : 0 ≤ 1)).cons2 (nice_yes h hn))).mono (by decide) (by decide)
theorem nice_unf : Nice 70 2 (.list [.str "unfit", .bool true]) := (Nice.lst (nice_unfit.cons2 (Nice.bool true))).mono (by decide) (by decide)
theorem nice_own {n : Nat} {z : Str} (h : OwnS n z) (hn : n ≤ 60) : Nice 60 0 (.str z) := by
  refine Nice.str (Nat.le_trans (Nat.le_of_eq h.1) hn) (fun c hc => ?_) ?_
  · rcases h.2 c hc with rfl | rfl <;> decide
  · show z.cps.all (fun c => decide (c < 0x110000)) = true
    rw [Array.all_eq_true_iff_forall_mem]
    intro c hc
    have hc' : c ∈ z.cps.toList := Array.mem_toList_iff.mpr hc
    rcases h.2 c hc' with rfl | rfl <;> decide
theorem Yes.mono {n : Nat} {z : Str} {rs : List (List Int)} {u : Int} (hu : 0 ≤ u) (hc : ∀ r ∈ rs, Cls n r) {x : Int} (h : Yes z rs u x) : Yes z rs 0 x := by
  by_cases c : u = 0
  · rw [c] at h
    exact h
  · rw [Yes.other c] at h
    refine Cl.sub (p := fun x => Yes z rs 0 x) (fun y hy => hy.1) (fun k ns hr hi => ?_) x h
    obtain ⟨r, h1, h2, h3, h4, _, h6⟩ := hr
    rw [Yes.zero]
    refine .step ⟨r, h1, h2, by omega, h4, fun q => ?_, h6⟩ fun y hy => Yes.zero.mp (hi y hy)
    have := (hc r h1).lit _ q
    omega
theorem held_se {z : Str} {x : Int} (h : heldBy z "s" x = true) : heldBy z "e" x = false := by
  have h1 : V.str ⟨#[sgn z x]⟩ = V.str "s" := of_decide_eq_true h
  refine decide_eq_false fun h2 => ?_
  rw [h1] at h2
  exact absurd h2 (by decide)
section
variable {P : Program} {w : World} {K : PySem.W.Frag} {mg : Str → Option Value} {base : Heap}
def spHeard (K : PySem.W.Frag) : Sp := fun vs H Q _ => ∃ (a c : Addr) (z : Str) (n : Nat) (rs : List (List Int)) (u : Int) (nm : Bool), vs = [.ref a, .int u, .bl nm] ∧ SentC K H n a c z rs ∧
  ∀ (q : Addr) (d : PyData) (H' : Hp), Evl.Ex H H' → HeardY n z rs u d → Dp K H' (.ref q) d → Q (.ref q) H'
theorem ok_heard {f fM C CG : Addr} {fd fdM : FuncData} (F : Fun K "_law_heard" "_law_heard" s_law_heard f fd) (T : Bl mg) (U : ExcF K mg "Unfit" C) (UC : ExcC K C)
    (gG : mg "GameError" = some (.ref CG)) (kit : PySem.W.kitOne K (.ref C) (.ref CG) = some true) (exm : PySem.W.exmOne K (.ref C) (.ref C) = some true)
    (Gyes_letters : FnOk P w K mg base (L2.CX P w) 6 fM fdM ["sentence", "letter"] (spYesL K C)) (Cyes_letters : Callee K mg "yes_letters" fM fdM ["sentence", "letter"])
    (kw : ∀ (s : Shared) (ws : List Value), ws.length = 2 → BindsTo s fdM ⟨[], (["letter", "sentence"] : List Str).zip ws⟩ ((["sentence", "letter"] : List Str).zip ws.reverse)) :
    FnOk P w K mg base CX0 7 f fd ["sentence", "u", "is_named"] (spHeard K) := by
  refine F.ok sc_law_heard (fun vs H Q E h => ?_) (fun cdv A outer s H vs Q E hr h => ?_)
  · obtain ⟨a, c, z, n, rs, u, nm, rfl, _⟩ := h
    rfl
  · obtain ⟨a, c, z, n, rs, u, nm, rfl, hs, q⟩ := h
    refine ⟨_, pss_one (ps_try_as (i := 3) (c := .ref C) (Wout := fun _ _ _ _ => False) rfl rfl sc_law_heard.nd rfl rfl ⟨rfl, by decide, .inl U.g⟩ takes0
      (fun W pn xe tk _ => pss_one (ps_ret (pe_lst (pa_cons pe_str (pa_cons (pe_ifExp (pt_val (pv 2))
        (pe_kw (ks := ["letter", "sentence"]) (g := List.reverse) (gV := List.reverse) Gyes_letters (hr.mono (by decide)) (by rfl) Cyes_letters.m Cyes_letters.k kw (fun _ r => rel_rev r) (fun σ => passAt tk σ) (pk_cons (pv 1) (pk_cons (pv 0) pk_nil)))
        (pe_callS Gyes_letters (hr.mono (by decide)) (by rfl) Cyes_letters.m Cyes_letters.k Cyes_letters.b (fun σ => passAt tk σ) (pa_cons (pv 0) (pa_cons (pv 1) pa_nil)))) pa_nil)))))
      (fun a oe cls d pn hz hf => pss_guard (p := cls = .ref C ∧ d = none) fun hp => by
        obtain ⟨rfl, rfl⟩ := hp
        exact pss_one (ps_ret (pe_lst (pa_cons pe_str (pa_cons (pe_callB (call_isE UC hz hf) (by rfl) T.isinstance (by decide +kernel) (pa_cons (pv 3) (pa_cons (pe_glob (v := .ref CG) (by rfl) gG rfl) pa_nil))) pa_nil)))))), ?_⟩
    refine rd_start (σ' := [some (.ref a), some (.int u), some (.bl nm), none]) rfl ?_
    have fine : ∀ (b : Addr) (ys : List Int) (H1 : Hp), Asked n z rs u → Evl.Ex H H1 → YesT n z rs u ys → SqT K H1 b (ys.map V.int) → ∀ p, H1 p = none → Q (.ref p) (upd H1 p (.lst [.str "told", .ref b])) :=
      fun b ys H1 c e1 hj hr p hp => q p (.list [.str "told", .tuple (dI ys)]) _ (e1.trans (Evl.Ex.new hp)) (.inl ⟨c, ys, hj, rfl⟩)
        (.lst (SqL.of upd_same) (.cons (.str _) (.cons (dp_T (Evl.ex_t (Evl.Ex.new hp) hr)) .nil)))
    walk_at "rds"
    refine rd_iteb (fun c1 => ?_) (fun c1 => ?_)
    · walk_at "rds"
      refine ⟨rfl, a, c, z, n, rs, u, rfl, hs, fun ca b ys H1 e1 hj hr => ?_, fun ca H1 e1 => ?_⟩
      · walk_at "rds"
        exact ⟨(by show 2 ≤ sizeLine; decide), fun p hp => fine b ys H1 ca e1 hj hr p hp⟩
      · refine ⟨true, exm, fun _ u2 hu => ⟨⟨rfl, rfl⟩, ?_⟩, fun h => (nomatch h)⟩
        refine rd_start (σ' := [some (.ref a), some (.int u), some (.bl nm), some (.ref u2)]) rfl ?_
        walk_at "rds"
        refine ⟨.ref CG, .ref CG, true, rfl, fun v h => h, kit, ?_⟩
        walk_at "rds"
        refine ⟨(by show 2 ≤ sizeLine; decide), fun p hp => ?_⟩
        exact q p (.list [.str "unfit", .bool true]) _ (e1.trans (Evl.Ex.new hp)) (.inr ⟨ca, rfl⟩) (.lst (SqL.of upd_same) (.cons (.str _) (.cons (.bl _) .nil)))
    · walk_at "rds"
      refine ⟨a, c, z, n, rs, u, rfl, hs, fun ca b ys H1 e1 hj hr => ?_, fun ca H1 e1 => ?_⟩
      · walk_at "rds"
        exact ⟨(by show 2 ≤ sizeLine; decide), fun p hp => fine b ys H1 ca e1 hj hr p hp⟩
      · refine ⟨true, exm, fun _ u2 hu => ⟨⟨rfl, rfl⟩, ?_⟩, fun h => (nomatch h)⟩
        refine rd_start (σ' := [some (.ref a), some (.int u), some (.bl nm), some (.ref u2)]) rfl ?_
        walk_at "rds"
        refine ⟨.ref CG, .ref CG, true, rfl, fun v h => h, kit, ?_⟩
        walk_at "rds"
        refine ⟨(by show 2 ≤ sizeLine; decide), fun p hp => ?_⟩
        exact q p (.list [.str "unfit", .bool true]) _ (e1.trans (Evl.Ex.new hp)) (.inr ⟨ca, rfl⟩) (.lst (SqL.of upd_same) (.cons (.str _) (.cons (.bl _) .nil)))
def spIsRight (K : PySem.W.Frag) : Sp := fun vs H Q _ => ∃ (d l c : Addr) (n : Nat) (z : Str) (xs : List V) (rs : List (List Int)) (many : Int), vs = [.ref d, .str z, .ref c, .int many] ∧ DeckL d l H ∧ SqT K H c xs ∧ DpAll K H xs (rs.map dR) ∧ OwnS n z ∧ n ≤ 60 ∧ HRows n rs ∧ rs.length ≤ 900 ∧ 0 ≤ many ∧ many ≤ 100 ∧
  ∀ H', Gl d l H H' → Q (.bl true) H'
theorem ok_right {f fY fH fM : Addr} {fd fdY fdH fdM : FuncData} (F : Fun K "_law_is_right" "_law_is_right" s_law_is_right f fd) (T : Bl mg)
    (G_law_yes : FnOk P w K mg base CX0 2 fY fdY ["owners", "clauses", "u"] (spYes K 2)) (C_law_yes : Callee K mg "_law_yes" fY fdY ["owners", "clauses", "u"])
    (G_law_heard : FnOk P w K mg base CX0 7 fH fdH ["sentence", "u", "is_named"] (spHeard K)) (C_law_heard : Callee K mg "_law_heard" fH fdH ["sentence", "u", "is_named"])
    (G_law_mixed : FnOk P w K mg base CX0 2 fM fdM ["bag", "row"] (spMixed K)) (C_law_mixed : Callee K mg "_law_mixed" fM fdM ["bag", "row"]) :
    FnG P w K mg base 8 f fd ["bag", "owners", "clauses", "many"] (spIsRight K) := by
  refine okG F sc_law_is_right (fun vs H Q E h => ?_) (fun cdv A outer s H vs Q E hr hg h => ?_)
  · obtain ⟨d, l, c, n, z, xs, rs, many, rfl, _⟩ := h
    rfl
  · obtain ⟨d, l, c, n, z, xs, rs, many, rfl, hD, hc, hd, hz, hn, hrs, hl, m0, m1, q⟩ := h
    refine ⟨_, (pss_cons (ps_par (i := 4) (j := 5) rfl sc_law_is_right.nd rfl rfl (by decide) rfl rfl (pa_cons (pe_tup (pa_cons (pv 1) (pa_cons (pv 2) pa_nil))) (pa_cons (pe_callB c_lenS (by rfl) T.len (by decide +kernel) (pa_cons (pv 1) pa_nil)) pa_nil)) (by rfl))
 (pss_cons (ps_asg (pe_tup (pa_cons (pe_callB (c_repr (K := K) rfl hg hr.units) (by rfl) T.repr (by decide +kernel) (pa_cons (pv 4) pa_nil)) (pa_cons (pe_call G_law_yes (hr.mono (by decide)) (by rfl) C_law_yes.m C_law_yes.k C_law_yes.b .nil pass0 (pa_cons (pv 1) (pa_cons (pv 2) (pa_cons pe_int pa_nil)))) pa_nil))) (pgk_tup (K := K) rfl rfl (pgs_cons (pg_name (i := 6) sc_law_is_right.nd rfl (Or.inl rfl)) (pgs_cons (pg_name (i := 7) sc_law_is_right.nd rfl (Or.inr rfl)) pgs_nil))))
 (pss_cons (ps_set (i := 8) sc_law_is_right.nd rfl (Or.inl rfl) (pe_op op_cat (pe_lst (pa_cons pe_int pa_nil)) (pe_lc (own := [("k", 12)]) (g := gName 12) rfl sc_law_is_right.nd (pi_range2 (by rfl) T.range (pa_cons pe_int (pa_cons (pe_op op_add (pv 5) pe_int) pa_nil))) (blkOk_by (own := [("k", 12)]) (N := ["bag", "owners", "clauses", "many", "sentence", "n", "known", "whole", "menu", "nth", "u", "due", "k", "x"]) (sc := defScope s_law_is_right) (by decide +kernel)) (fun _ _ _ _ _ => (pg_name (i := 12) sc_law_is_right.nd rfl (Or.inl rfl))) (fun _ _ _ _ _ => (pts_one (pt_cmpR op_eq (pe_ix ix_str (pv 1) (pe_op op_sub (pv 12) pe_int) (fun _ _ => rfl)) pe_str (nomark _)))) (fun _ _ _ _ _ => (pv 12)))))
 (pss_cons (ps_for PassesOwn.never rfl (pi_enumL (K := K) rfl (by rfl) T.enumerate (pa_cons (pe_op op_cat (pe_lst (pa_cons pe_int pa_nil)) (pe_slice (sk_list (K := K) rfl) (pe_call G_law_mixed (hr.mono (by decide)) (by rfl) C_law_mixed.m C_law_mixed.k C_law_mixed.b .nil pass0 (pa_cons (pv 0) (pa_cons (pv 8) pa_nil))) po_none (po_some (pv 3)))) pa_nil)) (pgk_tup (K := K) rfl rfl (pgs_cons (pg_name (i := 9) sc_law_is_right.nd rfl (Or.inl rfl)) (pgs_cons (pg_name (i := 10) sc_law_is_right.nd rfl (Or.inl rfl)) pgs_nil))) (pss_cons (ps_set (i := 11) sc_law_is_right.nd rfl (Or.inl rfl) (pe_call G_law_yes (hr.mono (by decide)) (by rfl) C_law_yes.m C_law_yes.k C_law_yes.b .nil pass0 (pa_cons (pv 1) (pa_cons (pv 2) (pa_cons (pv 10) pa_nil)))))
 (pss_cons (ps_if (pt_cmpR (ok_neD (K := K) rfl hr.units) (pe_lc (own := [("x", 13)]) (g := gName 13) rfl sc_law_is_right.nd (ik_listI (K := K) rfl (pv 11)) (blkOk_by (own := [("x", 13)]) (N := ["bag", "owners", "clauses", "many", "sentence", "n", "known", "whole", "menu", "nth", "u", "due", "k", "x"]) (sc := defScope s_law_is_right) (by decide +kernel)) (fun _ _ _ _ _ => (pg_name (i := 13) sc_law_is_right.nd rfl (Or.inl rfl))) (fun _ _ _ _ _ => (pts_one (pt_cmpR (ok_notIn (K := K) rfl) (pv 13) (pv 7) (by rfl)))) (fun _ _ _ _ _ => (pv 13))) (pe_lst pa_nil) (nomark _)) (pss_one (ps_ret pe_bl)) pss_nil)
 (pss_one (ps_if (pt_cmpR op_ne (pe_callB (c_repr (K := K) rfl hg hr.units) (by rfl) T.repr (by decide +kernel) (pa_cons (pe_call G_law_heard (hr.mono (by decide)) (by rfl) C_law_heard.m C_law_heard.k C_law_heard.b .nil pass0 (pa_cons (pv 4) (pa_cons (pv 10) (pa_cons (pe_cmpR op_eq (pv 9) pe_int (nomark _)) pa_nil)))) pa_nil)) (pe_callB (c_repr (K := K) rfl hg hr.units) (by rfl) T.repr (by decide +kernel) (pa_cons (pe_lst (pa_cons pe_str (pa_cons (pe_callTy (c_tuple (K := K) rfl) (by rfl) T.tuple (by decide +kernel) (pa_cons (pv 11) pa_nil)) pa_nil))) pa_nil)) (nomark _)) (pss_one (ps_ret pe_bl)) pss_nil)))))
 (pss_cons (ps_if (pt_cmpR op_ne (pe_callB (c_repr (K := K) rfl hg hr.units) (by rfl) T.repr (by decide +kernel) (pa_cons (pe_call G_law_heard (hr.mono (by decide)) (by rfl) C_law_heard.m C_law_heard.k C_law_heard.b .nil pass0 (pa_cons (pv 4) (pa_cons pe_int (pa_cons pe_bl pa_nil)))) pa_nil)) (pe_callB (c_repr (K := K) rfl hg hr.units) (by rfl) T.repr (by decide +kernel) (pa_cons (pe_lst (pa_cons pe_str (pa_cons (pe_callTy (c_tuple (K := K) rfl) (by rfl) T.tuple (by decide +kernel) (pa_cons (pv 7) pa_nil)) pa_nil))) pa_nil)) (nomark _)) (pss_one (ps_ret pe_bl)) pss_nil)
 (pss_cons (ps_for PassesOwn.never rfl (ik_listI (K := K) rfl (pe_op op_cat (pe_lst (pa_cons (pe_un un_neg pe_int) (pa_cons (pe_op op_add (pv 5) pe_int) (pa_cons (pe_op op_pow pe_int pe_int) pa_nil)))) (pe_slice (sk_list (K := K) rfl) (pe_lc (own := [("k", 12)]) (g := gName 12) rfl sc_law_is_right.nd (pi_range2 (by rfl) T.range (pa_cons pe_int (pa_cons (pe_op op_add (pv 5) pe_int) pa_nil))) (blkOk_by (own := [("k", 12)]) (N := ["bag", "owners", "clauses", "many", "sentence", "n", "known", "whole", "menu", "nth", "u", "due", "k", "x"]) (sc := defScope s_law_is_right) (by decide +kernel)) (fun _ _ _ _ _ => (pg_name (i := 12) sc_law_is_right.nd rfl (Or.inl rfl))) (fun _ _ _ _ _ => (pts_one (pt_cmpR op_eq (pe_ix ix_str (pv 1) (pe_op op_sub (pv 12) pe_int) (fun _ _ => rfl)) pe_str (nomark _)))) (fun _ _ _ _ _ => (pv 12))) po_none (po_some pe_int)))) (pg_name (i := 10) sc_law_is_right.nd rfl (Or.inl rfl)) (pss_one (ps_if (pt_cmpR (ok_neD (K := K) rfl hr.units) (pe_call G_law_heard (hr.mono (by decide)) (by rfl) C_law_heard.m C_law_heard.k C_law_heard.b .nil pass0 (pa_cons (pv 4) (pa_cons (pv 10) (pa_cons (pe_cmpR op_eq (pv 10) (pe_un un_neg pe_int) (nomark _)) pa_nil)))) (pe_lst (pa_cons pe_str (pa_cons pe_bl pa_nil))) (nomark _)) (pss_one (ps_ret pe_bl)) pss_nil)))
 (pss_one (ps_ret (pe_cmpR op_eq (pe_callB (c_repr (K := K) rfl hg hr.units) (by rfl) T.repr (by decide +kernel) (pa_cons (pv 4) pa_nil)) (pv 6) (nomark _)))))))))), ?_⟩
    refine rd_start (σ' := [some (.ref d), some (.str z), some (.ref c), some (.int many), none, none, none, none, none, none, none, none, none, none]) rfl ?_
    have zl : z.length ≤ sizeLine := by rw [hz.1, sizeLine_eq]; omega
    have hcl : ∀ r ∈ rs, Cls n r := fun r hr => (hrs r hr).1
    have hHo : ∀ r ∈ rs, Horn r := fun r hr => (hrs r hr).2
    walk_at "rds"
    refine ⟨(by show 2 ≤ sizeLine; decide), fun t ht => ?_⟩
    have g1 := Gl.new (o := .tup [V.str z, .ref c]) hD ht
    have hs1 : SentC K (upd H t (.tup [V.str z, .ref c])) n t c z rs := ⟨xs, SqT.of upd_same, g1.tup hD hc, Gl.rows g1 hD hd, hz, hn, hcl, by omega⟩
    generalize upd H t (.tup [V.str z, .ref c]) = H1 at g1 hs1 ⊢
    have hD1 := g1.dk
    walk_at "rds"
    refine rd_lenS zl ?_
    rw [hz.1]
    walk_at "rds"
    have hdS : ∀ {H' : Hp}, SentC K H' n t c z rs → Dp K H' (.ref t) (.tuple [.str z, .tuple (rs.map dR)]) := fun h => by
      obtain ⟨ws, h1, h2, h3, _⟩ := h
      exact .tup h1 (.cons (.str _) (.cons (.tup h2 h3) .nil))
    have nS : Nice 60000 3 (.tuple [.str z, .tuple (rs.map dR)]) := (Nice.tup (((nice_own hz hn).mono (Nat.le_refl _) (Nat.zero_le 2)).cons2 (Nice.tup (nice_clss hn hcl)))).mono (by omega) (by decide)
    refine rd_repr (hdS hs1) nS (by decide) (by decide) rfl ?_
    walk_at "rds"
    obtain ⟨xs1, sq1, sq2, sq3, _⟩ := id hs1
    refine ⟨c, z, n, xs1, rs, 0, rfl, sq2, sq3, hz, hn, hcl, hHo, by omega, by decide, by decide, by decide, by decide, fun qw w0 H2 e2 hw0 hqw hqw2 => ?_⟩
    obtain ⟨wd, wl⟩ := hD1.off hqw
    walk_at "rds"
    refine ⟨(by show 2 ≤ sizeLine; decide), fun pt hpt => ?_⟩
    have ept := Evl.Ex.new (o := .tup [V.str (PyData.tuple [PyData.str z, PyData.tuple (List.map dR rs)]).shown, V.ref qw]) hpt
    have g2 := Gl.ex (e2.trans ept) hD1
    have hs2 := hs1.ex (e2.trans ept)
    have hD2 := g2.dk
    replace hqw2 := ept _ _ hqw2
    refine rd_gtup2 (x := V.str (PyData.tuple [PyData.str z, PyData.tuple (List.map dR rs)]).shown) (y := V.ref qw) (SqT.of upd_same) rfl (σ' := [some (.ref d), some (.str z), some (.ref c), some (.int many), some (.ref t), some (.int (n : Int)), some (.str (PyData.tuple [.str z, .tuple (rs.map dR)]).shown), some (.ref qw), none, none, none, none, none, none]) rfl ?_
    generalize upd H2 pt (.tup [V.str (PyData.tuple [PyData.str z, PyData.tuple (List.map dR rs)]).shown, V.ref qw]) = H2 at g2 hs2 hD2 hqw2 ⊢
    walk_at "rds"
    refine ⟨by decide, fun p0 hp0 => ?_⟩
    have e3 := Evl.Ex.new (o := .lst [V.int 0]) hp0
    walk_at "rds"
    have en : ((n : Int) + 1 - 1).toNat = n := by omega
    refine ⟨1, (n : Int) + 1, rfl, ⟨by decide, by decide, by omega, by omega⟩, ?_⟩
    refine lc_fmR (lo := 1) (n := ((n : Int) + 1 - 1).toNat) (fun j : Nat => heldBy z "e" (1 + (j : Int))) (fun j : Nat => .int (1 + (j : Int))) (σx := fun x => [some (.ref d), some (.str z), some (.ref c), some (.int many), some (.ref t), some (.int (n : Int)), some (.str (PyData.tuple [.str z, .tuple (rs.map dR)]).shown), some (.ref qw), none, none, none, none, some x, none]) (by omega) (fun _ => rfl) (fun _ => rfl)
      (fun j hj H' N S e kN kS => ?_) fun D H4 e4 eD hD4 => ?_
    · walk_at "rds"
      refine rd_ixS zl (at_up hz (by omega) (by omega)) ?_
      walk_at "rds"
      refine rd_iteb (b := heldBy z "e" (1 + (j : Int))) (fun c => ?_) (fun c => ?_)
      · walk_at "rds"
        exact kN c _ (Evl.Ex.refl _)
      · exact kS c _ (Evl.Ex.refl _)
    rw [en] at hD4
    obtain ⟨es, ees, hes⟩ : ∃ es : List Int, ((List.range n).filter fun j : Nat => heldBy z "e" (1 + (j : Int))).map (fun j : Nat => V.int (1 + (j : Int))) = es.map V.int ∧ ∀ x ∈ es, x ∈ lettersI z "e" n :=
      ⟨((List.range n).filter fun j : Nat => heldBy z "e" (1 + (j : Int))).map fun j : Nat => 1 + (j : Int), by rw [List.map_map] <;> rfl, fun x hx => by
        obtain ⟨j, hj, rfl⟩ := List.mem_map.mp hx
        obtain ⟨h1, h2⟩ := List.mem_filter.mp hj
        have := List.mem_range.mp h1
        exact lettersI_mem.mpr ⟨⟨by omega, by omega⟩, h2⟩⟩
    have esl : es.length ≤ 60 := by
      have h1 := congrArg List.length ees
      rw [List.length_map, List.length_map] at h1
      have h2 := List.length_filter_le (fun j : Nat => heldBy z "e" (1 + (j : Int))) (List.range n)
      rw [List.length_range] at h2
      omega
    rw [ees] at hD4
    have hp04 : H4 p0 = some (.lst [V.int 0]) := e4 _ _ upd_same
    refine rd_catL hp04 hD4 (by rw [List.length_map, List.length_singleton, sizeLine_eq]; omega) fun u hu => ?_
    have e5 := Evl.Ex.new (o := .lst ([V.int 0] ++ es.map V.int)) hu
    have e35 := (e3.trans e4).trans e5
    have g5 := Gl.ex e35 hD2
    have hu5 : (upd H4 u (.lst ([V.int 0] ++ es.map V.int))) u = some (.lst ((0 :: es).map V.int)) := upd_same
    have hs5 := hs2.ex e35
    obtain ⟨ud, ul⟩ := (Gl.ex (e3.trans e4) hD2).dk.off hu
    have hqw5 := e35 _ _ hqw2
    have hD5 := g5.dk
    have g15 := (g1.trans g2).trans g5
    clear hD4 eD e4 e3 hp0 hp04 hu e5
    generalize upd H4 u (.lst ([V.int 0] ++ es.map V.int)) = H5 at hu5 hs5 hqw5 hD5 g5 g15 e35 ⊢
    walk_at "rds"
    refine ⟨by decide, fun p1 hp1 => ?_⟩
    have g6 := Gl.new (o := .lst [V.int 0]) hD5 hp1
    obtain ⟨p1d, p1l⟩ := hD5.off hp1
    walk_at "rds"
    refine ⟨d, l, u, 0 :: es, rfl, g6.dk, .inl (SqL.of (g6.kp u _ ud ul hu5)), by rw [List.length_cons]; omega, fun q1 ms H7 g7 qn hq1 pm => ?_⟩
    have hms : ∀ x ∈ ms, Asked n z rs x ∧ 0 ≤ x ∧ x ≤ 60 := fun x hx => by
      rcases List.mem_cons.mp (pm.mem_iff.mp hx) with rfl | h
      · exact ⟨⟨hHo, .inl rfl⟩, by decide, by decide⟩
      · have h1 := hes x h
        have := (lettersI_mem.mp h1).1
        exact ⟨⟨hHo, .inr h1⟩, by omega, by omega⟩
    have lms : ms.length ≤ 61 := by rw [pm.length_eq, List.length_cons]; omega
    obtain ⟨qd, ql⟩ := g6.dk.off qn
    walk_at "rds"
    refine rd_slL (SqL.of hq1) fun u2 hu2 => ?_
    rw [cut_take m0, ← List.map_take]
    have g8 := Gl.new (o := .lst ((ms.take many.toNat).map V.int)) g7.dk hu2
    have hp18 := g8.kp p1 _ p1d p1l (g7.kp p1 _ p1d p1l upd_same)
    have hus : ∀ x ∈ ms.take many.toNat, Asked n z rs x ∧ 0 ≤ x ∧ x ≤ 60 := fun x hx => hms x (List.mem_of_mem_take hx)
    have lus : (ms.take many.toNat).length ≤ 61 := by rw [List.length_take]; omega
    refine rd_catL hp18 upd_same (by rw [List.length_map, List.length_singleton, sizeLine_eq]; omega) fun u3 hu3 => ?_
    have g9 := Gl.new (o := .lst ([V.int 0] ++ (ms.take many.toNat).map V.int)) g8.dk hu3
    have hu0 : ∀ x ∈ 0 :: ms.take many.toNat, Asked n z rs x ∧ 0 ≤ x ∧ x ≤ 60 := fun x hx => by
      rcases List.mem_cons.mp hx with rfl | h
      · exact ⟨⟨hHo, .inl rfl⟩, by decide, by decide⟩
      · exact hus x h
    obtain ⟨u3d, u3l⟩ := g8.dk.off hu3
    have g59 := ((g6.trans g7).trans g8).trans g9
    have hu39 : (upd (upd H7 u2 (.lst ((ms.take many.toNat).map V.int))) u3 (.lst ([V.int 0] ++ (ms.take many.toNat).map V.int))) u3 = some (.lst ((0 :: ms.take many.toNat).map V.int)) := upd_same
    have hqw9 := g59.kp qw _ wd wl hqw5
    have hs9 : SentC K (upd (upd H7 u2 (.lst ((ms.take many.toNat).map V.int))) u3 (.lst ([V.int 0] ++ (ms.take many.toNat).map V.int))) n t c z rs := hs5.mono fun a xs h => g59.tup hD5 h
    have hD9 := g59.dk
    have g19 := g15.trans g59
    clear hu3 hp18 g9 g8 hu2 hq1 g7 g6 hus lus hms lms pm ql qd qn hp1 p1d p1l
    generalize upd (upd H7 u2 (.lst ((ms.take many.toNat).map V.int))) u3 (.lst ([V.int 0] ++ (ms.take many.toNat).map V.int)) = H9 at g59 hu39 hqw9 hs9 hD9 g19 ⊢
    generalize 0 :: ms.take many.toNat = us at hu0 hu39
    have wm : ∀ {ys : List Int} {u : Int}, 0 ≤ u → YesT n z rs u ys → (ys.filter fun x => !decide (x ∈ w0)) = [] := fun hu hy => by
      rw [List.filter_eq_nil_iff]
      intro x hx
      have h1 := (hw0.mem x).mpr (Yes.mono hu hcl ((hy.mem x).mp hx))
      rw [decide_eq_true h1]
      decide
    refine ⟨u3, us.map V.int, rfl, SqL.of hu39, ?_⟩
    refine fr_enumL (xs := us.map V.int) rfl (fun i σ' H' => ∃ y9 ya yb : Option V, σ' = [some (.ref d), some (.str z), some (.ref c), some (.int many), some (.ref t), some (.int (n : Int)), some (.str (PyData.tuple [.str z, .tuple (rs.map dR)]).shown), some (.ref qw), some (.ref u), y9, ya, yb, none, none] ∧ Evl.Ex H9 H')
      ⟨_, _, _, rfl, Evl.Ex.refl _⟩ (fun i σ' H' ⟨_, _, _, _, e⟩ => SqL.of (e _ _ hu39)) (fun i σ' HA tt hi hP htt => ?_) fun σ' HA hP => ?_
    · obtain ⟨y9, ya, yb, rfl, eA⟩ := hP
      rw [List.length_map] at hi
      have hui : us[i]? = some us[i] := List.getElem?_eq_getElem hi
      have hum := hu0 _ (List.mem_of_getElem? hui)
      have exd : (us.map V.int).getD i .non = .int us[i] := by rw [List.getD_eq_getElem?_getD, List.getElem?_map, hui] <;> rfl
      rw [exd]
      generalize us[i] = ui at hum
      have eB := eA.trans (Evl.Ex.new (o := .tup [.int (i : Nat), .int ui]) htt)
      have hsB := hs9.ex eB
      have hqwB := eB _ _ hqw9
      generalize upd HA tt (.tup [.int (i : Nat), .int ui]) = HB at eB hsB hqwB ⊢
      refine rd_start (σ' := [some (.ref d), some (.str z), some (.ref c), some (.int many), some (.ref t), some (.int (n : Int)), some (.str (PyData.tuple [.str z, .tuple (rs.map dR)]).shown), some (.ref qw), some (.ref u), some (.int (i : Nat)), some (.int ui), yb, none, none]) rfl ?_
      obtain ⟨xsB, sb1, sb2, sb3, _⟩ := id hsB
      walk_at "rds"
      refine ⟨c, z, n, xsB, rs, ui, rfl, sb2, sb3, hz, hn, hcl, hHo, by omega, hum.2.1, by omega, by decide, fun e => absurd e (by decide), fun qy ys HC eC hyT hqy hqy2 => ?_⟩
      walk_at "rds"
      refine rd_refL (SqL.of hqy2) ?_
      refine lc_fmL (fun x => !decide (x ∈ w0)) V.int (σx := fun x => [some (.ref d), some (.str z), some (.ref c), some (.int many), some (.ref t), some (.int (n : Int)), some (.str (PyData.tuple [.str z, .tuple (rs.map dR)]).shown), some (.ref qw), some (.ref u), some (.int (i : Nat)), some (.int ui), some (.ref qy), none, some x]) (SqL.of hqy2) (by have := hyT.len; omega) (fun _ => rfl) (fun _ => rfl)
        (fun x hx H' N S e kN kS => ?_) fun D1 HD eD1 hD1n hD1' => ?_
      · walk_at "rds"
        refine rd_notInL (SqL.of ((eC.trans e) _ _ hqwB)) ?_
        walk_at "rds"
        refine rd_iten (fun c => ?_) (fun c => ?_)
        · walk_at "rds"
          exact kN (by show (!decide (x ∈ w0)) = true; rw [decide_eq_false c]; rfl) _ (Evl.Ex.refl _)
        · exact kS (by show (!decide (x ∈ w0)) = false; rw [decide_eq_true c]; rfl) _ (Evl.Ex.refl _)
      rw [wm hum.2.1 hyT] at hD1'
      walk_at "rds"
      refine ⟨Nat.zero_le _, fun p2 hp2 => ?_⟩
      have eE := Evl.Ex.new (o := .lst []) hp2
      refine rd_neD (d := .list []) (e := .list []) (.lst (SqL.of (eE _ _ hD1')) .nil) (.lst (SqL.of upd_same) .nil) (Nice.lst NiceAll.nil) (Nice.lst NiceAll.nil) (k := 1) (j := 1) (by decide) (by decide) ?_
      have ee : (!PyData.eqv (.list []) (.list [])) = false := rfl
      rw [ee]
      walk_at "rds"
      have eBE := (eC.trans eD1).trans eE
      refine ⟨t, c, z, n, rs, ui, _, rfl, hsB.ex eBE, fun qh dh HF eF hh kh => ?_⟩
      have edh : dh = .list [.str "told", .tuple (dI ys)] := by
        rcases hh with ⟨_, ys', hy', rfl⟩ | ⟨hno, _⟩
        · rw [hy'.eq hyT]
        · exact absurd hum.1 hno
      subst edh
      walk_at "rds"
      refine rd_repr kh (nice_toldy hyT hn) (by decide) (by decide) rfl ?_
      walk_at "rds"
      refine rd_tupL (SqL.of (((eD1.trans eE).trans eF) _ _ hqy2)) fun o1 ho1 => ?_
      have eG := Evl.Ex.new (o := .tup (ys.map V.int)) ho1
      walk_at "rds"
      refine ⟨(by show 2 ≤ sizeLine; decide), fun p3 hp3 => ?_⟩
      have eH := Evl.Ex.new (o := .lst [V.str "told", .ref o1]) hp3
      walk_at "rds"
      refine rd_repr (d := .list [.str "told", .tuple (dI ys)]) (.lst (SqL.of upd_same) (.cons (.str _) (.cons (dp_T (Evl.ex_t eH (SqT.of upd_same))) .nil))) (nice_toldy hyT hn) (by decide) (by decide) rfl ?_
      walk_at "rds"
      refine rd_iten (fun c => absurd rfl c) fun _ => ?_
      walk_at "rds"
      exact ⟨_, _, _, rfl, (((eB.trans eBE).trans eF).trans eG).trans eH⟩
    obtain ⟨y9, ya, yb, rfl, eA⟩ := hP
    have hsA := hs9.ex eA
    have hqwA := eA _ _ hqw9
    have g1A := g19.trans (Gl.ex eA hD9)
    walk_at "rds"
    refine ⟨t, c, z, n, rs, 0, false, rfl, hsA, fun qh dh HF eF hh kh => ?_⟩
    have edh : dh = .list [.str "told", .tuple (dI w0)] := by
      rcases hh with ⟨_, ys', hy', rfl⟩ | ⟨hno, _⟩
      · rw [hy'.eq hw0]
      · exact absurd ⟨hHo, .inl rfl⟩ hno
    subst edh
    walk_at "rds"
    refine rd_repr kh (nice_toldy hw0 hn) (by decide) (by decide) rfl ?_
    walk_at "rds"
    refine rd_tupL (SqL.of (eF _ _ hqwA)) fun o1 ho1 => ?_
    have eG := Evl.Ex.new (o := .tup (w0.map V.int)) ho1
    walk_at "rds"
    refine ⟨(by show 2 ≤ sizeLine; decide), fun p3 hp3 => ?_⟩
    have eH := Evl.Ex.new (o := .lst [V.str "told", .ref o1]) hp3
    walk_at "rds"
    refine rd_repr (d := .list [.str "told", .tuple (dI w0)]) (.lst (SqL.of upd_same) (.cons (.str _) (.cons (dp_T (Evl.ex_t eH (SqT.of upd_same))) .nil))) (nice_toldy hw0 hn) (by decide) (by decide) rfl ?_
    walk_at "rds"
    refine rd_iten (fun c => absurd rfl c) fun _ => ?_
    walk_at "rds"
    have eAH := (eF.trans eG).trans eH
    have hsH := hsA.ex eAH
    have gH := g1A.trans (Gl.ex eAH g1A.dk)
    generalize upd (upd HF o1 (.tup (w0.map V.int))) p3 (.lst [V.str "told", .ref o1]) = HH at hsH gH ⊢
    refine rd_I ⟨by decide, by decide, by decide⟩ ?_
    have hbig : 60 < (10 : Int) ^ (30 : Int).toNat := by decide
    generalize (10 : Int) ^ (30 : Int).toNat = big at hbig ⊢
    walk_at "rds"
    refine ⟨(by show 3 ≤ sizeLine; decide), fun p4 hp4 => ?_⟩
    have eI := Evl.Ex.new (o := .lst [V.int (-1), .int ((n : Int) + 1), .int (big)]) hp4
    walk_at "rds"
    refine ⟨1, (n : Int) + 1, rfl, ⟨by decide, by decide, by omega, by omega⟩, ?_⟩
    refine lc_fmR (lo := 1) (n := ((n : Int) + 1 - 1).toNat) (fun j : Nat => heldBy z "s" (1 + (j : Int))) (fun j : Nat => .int (1 + (j : Int))) (σx := fun x => [some (.ref d), some (.str z), some (.ref c), some (.int many), some (.ref t), some (.int (n : Int)), some (.str (PyData.tuple [.str z, .tuple (rs.map dR)]).shown), some (.ref qw), some (.ref u), y9, ya, yb, some x, none]) (by omega) (fun _ => rfl) (fun _ => rfl)
      (fun j hj H' N S e kN kS => ?_) fun D3 HI e6 eD3 hD3 => ?_
    · walk_at "rds"
      refine rd_ixS zl (at_up hz (by omega) (by omega)) ?_
      walk_at "rds"
      refine rd_iteb (b := heldBy z "s" (1 + (j : Int))) (fun c => ?_) (fun c => ?_)
      · walk_at "rds"
        exact kN c _ (Evl.Ex.refl _)
      · exact kS c _ (Evl.Ex.refl _)
    rw [en] at hD3
    obtain ⟨ss, ess, hss⟩ : ∃ ss : List Int, ((List.range n).filter fun j : Nat => heldBy z "s" (1 + (j : Int))).map (fun j : Nat => V.int (1 + (j : Int))) = ss.map V.int ∧ ∀ x ∈ ss, 1 ≤ x ∧ heldBy z "s" x = true :=
      ⟨((List.range n).filter fun j : Nat => heldBy z "s" (1 + (j : Int))).map fun j : Nat => 1 + (j : Int), by rw [List.map_map] <;> rfl, fun x hx => by
        obtain ⟨j, hj, rfl⟩ := List.mem_map.mp hx
        obtain ⟨h1, h2⟩ := List.mem_filter.mp hj
        exact ⟨by omega, h2⟩⟩
    rw [ess] at hD3
    walk_at "rds"
    refine rd_slL (SqL.of hD3) fun u5 hu5' => ?_
    rw [cut_take (b := 2) (by decide), show (2 : Int).toNat = 2 from rfl, ← List.map_take]
    have e7 := Evl.Ex.new (o := .lst ((ss.take 2).map V.int)) hu5'
    refine rd_catL ((e6.trans e7) _ _ upd_same) upd_same (by rw [List.length_map, List.length_take, sizeLine_eq]; show 3 + _ ≤ _; omega) fun u6 hu6 => ?_
    have ev : ([V.int (-1), .int ((n : Int) + 1), .int (big)] ++ (ss.take 2).map V.int) = ([-1, (n : Int) + 1, big] ++ ss.take 2).map V.int := by
      rw [List.map_append] <;> rfl
    have e8 := Evl.Ex.new (o := .lst ([V.int (-1), .int ((n : Int) + 1), .int (big)] ++ (ss.take 2).map V.int)) hu6
    have eHI := ((eI.trans e6).trans e7).trans e8
    have hbad : ∀ x ∈ [-1, (n : Int) + 1, big] ++ ss.take 2, ¬ Asked n z rs x := fun x hx ha => by
      have hno : x ≠ 0 ∧ x ∉ lettersI z "e" n := by
        rcases List.mem_append.mp hx with h | h
        · simp only [List.mem_cons, List.not_mem_nil, or_false] at h
          rcases h with rfl | rfl | rfl
          · exact ⟨by decide, fun q => by have := (lettersI_mem.mp q).1; omega⟩
          · exact ⟨by omega, fun q => by have := (lettersI_mem.mp q).1; omega⟩
          · exact ⟨by omega, fun q => by have := (lettersI_mem.mp q).1; omega⟩
        · have h1 := hss x (List.mem_of_mem_take h)
          exact ⟨by omega, fun q => by
            have h2 := (lettersI_mem.mp q).2
            rw [held_se h1.2] at h2
            cases h2⟩
      exact ha.2.elim hno.1 hno.2
    rw [ev] at eHI ⊢
    have hsI := hsH.ex eHI
    have hu6' : (upd (upd HI u5 (.lst ((ss.take 2).map V.int))) u6 (.lst (([-1, (n : Int) + 1, big] ++ ss.take 2).map V.int))) u6 = some (.lst (([-1, (n : Int) + 1, big] ++ ss.take 2).map V.int)) := upd_same
    have gI := gH.trans (Gl.ex eHI gH.dk)
    generalize upd (upd HI u5 (.lst ((ss.take 2).map V.int))) u6 (.lst (([-1, (n : Int) + 1, big] ++ ss.take 2).map V.int)) = HJ at hsI hu6' gI ⊢
    generalize [-1, (n : Int) + 1, big] ++ ss.take 2 = bads at hbad hu6'
    refine rd_refL (SqL.of hu6') ?_
    refine fr_list (xs := bads.map V.int) (fun i σ' H' => ∃ ya : Option V, σ' = [some (.ref d), some (.str z), some (.ref c), some (.int many), some (.ref t), some (.int (n : Int)), some (.str (PyData.tuple [.str z, .tuple (rs.map dR)]).shown), some (.ref qw), some (.ref u), y9, ya, yb, none, none] ∧ Evl.Ex HJ H')
      ⟨_, rfl, Evl.Ex.refl _⟩ (fun i σ' H' _ ⟨_, _, e⟩ => SqL.of (e _ _ hu6')) (fun i x σ' HK hi hP => ?_) fun σ' HK hP => ?_
    · obtain ⟨ya, rfl, eK⟩ := hP
      rw [List.getElem?_map] at hi
      obtain ⟨x, hx, rfl⟩ := Option.map_eq_some_iff.mp hi
      refine rd_start (σ' := [some (.ref d), some (.str z), some (.ref c), some (.int many), some (.ref t), some (.int (n : Int)), some (.str (PyData.tuple [.str z, .tuple (rs.map dR)]).shown), some (.ref qw), some (.ref u), y9, some (.int x), yb, none, none]) rfl ?_
      have hbx := hbad x (List.mem_of_getElem? hx)
      walk_at "rds"
      refine ⟨t, c, z, n, rs, x, _, rfl, hsI.ex eK, fun qh dh HF eF hh kh => ?_⟩
      have edh : dh = .list [.str "unfit", .bool true] := by
        rcases hh with ⟨ha, _⟩ | ⟨_, rfl⟩
        · exact absurd ha hbx
        · rfl
      subst edh
      walk_at "rds"
      refine ⟨(by show 2 ≤ sizeLine; decide), fun p5 hp5 => ?_⟩
      have eL := Evl.Ex.new (o := .lst [V.str "unfit", .bl true]) hp5
      refine rd_neD (d := .list [.str "unfit", .bool true]) (e := .list [.str "unfit", .bool true]) (dp_ex eL _ _ kh) (.lst (SqL.of upd_same) (.cons (.str _) (.cons (.bl _) .nil))) nice_unf nice_unf (by decide) (by decide) ?_
      have ee : (!PyData.eqv (.list [.str "unfit", .bool true]) (.list [.str "unfit", .bool true])) = false := by rw [SeqAt.eqv_refl _ nice_unf.lay] <;> rfl
      rw [ee]
      walk_at "rds"
      exact ⟨_, rfl, (eK.trans eF).trans eL⟩
    obtain ⟨ya, rfl, eK⟩ := hP
    walk_at "rds"
    refine rd_repr (hdS (hsI.ex eK)) nS (by decide) (by decide) rfl ?_
    walk_at "rds"
    have ee : decide (V.str (PyData.tuple [.str z, .tuple (rs.map dR)]).shown = V.str (PyData.tuple [.str z, .tuple (rs.map dR)]).shown) = true := decide_eq_true rfl
    rw [ee]
    exact q _ (gI.trans (Gl.ex eK gI.dk))
end
end KA
set_option Elab.async false
set_option linter.all false
set_option maxRecDepth 100000
set_option maxHeartbeats 400000
set_option pp.maxSteps 300
namespace KA
open PySem PySem.Spec PyProof.Rows L2 Ea
local macro_rules | `(tactic| walk_at "rd") => `(tactic| first
  | (with_reducible refine rd_seq ?_) | (with_reducible refine rd_asg ?_) | (with_reducible refine rd_if ?_) | (with_reducible refine rd_ret ?_) | (with_reducible refine rd_next ?_)
  | (with_reducible refine rd_drop ?_) | ((with_reducible refine rd_name (σ' := ?ss) ?hs ?_); (case hs => (dsimp only [List.set]; exact rfl)))
  | ((with_reducible refine rd_var (v := ?vv) ?hv ?_); (case hv => exact rfl)) | (with_reducible refine rd_c ?_) | (with_reducible refine rd_op ?_) | (with_reducible refine rd_un ?_)
  | (with_reducible refine rd_I0 ?_) | (with_reducible refine rd_U ?_) | (with_reducible refine rd_test ?_) | (with_reducible refine rd_B ?_) | (with_reducible refine rd_k ?_)
  | (with_reducible refine rd_not ?_) | (with_reducible refine rd_and ?_) | (with_reducible refine rd_or ?_) | (with_reducible refine rd_ifE ?_)
  | (with_reducible refine rd_par ?_) | ((with_reducible refine rd_par2 (σ' := ?ss) ?hs ?_); (case hs => (dsimp only [List.set]; exact rfl)))
  | (with_reducible refine rd_gsub ?_) | (with_reducible refine rd_andV ?_) | (with_reducible refine rd_orV ?_) | (with_reducible refine rd_notV ?_)
  | (with_reducible refine rd_lc ?_) | (with_reducible refine rd_iTup ?_) | (with_reducible refine rd_iList ?_) | (with_reducible refine rd_iRng1 ?_) | (with_reducible refine rd_iRng2 ?_) | (with_reducible refine rd_iEnumT ?_) | (with_reducible refine rd_iEnum ?_) | (with_reducible refine rd_iZipM ?_) | (with_reducible refine rd_iEnumS ?_) | (with_reducible refine rd_iKeys ?_) | (with_reducible refine rd_din ?_) | (with_reducible refine rd_dnotin ?_)
  | (with_reducible refine rd_yes ?_) | (with_reducible refine rd_true ?_) | (with_reducible refine rd_false ?_) | (with_reducible refine rd_m1 ?_) | (with_reducible refine rd_isS ?_)
  | ((with_reducible refine rd_eq ?hs ?_); (case hs => exact rfl)) | ((with_reducible refine rd_ne ?hs ?_); (case hs => exact rfl))
  | (with_reducible refine rd_listRg ?_) | (with_reducible refine rd_rg2 ?_) | (with_reducible refine rd_rgk ?_)
  | (with_reducible refine rd_dnew ?_) | (with_reducible refine rd_ddel ?_) | (with_reducible refine rd_kw ?_) | (with_reducible refine rd_callS ?_) | (with_reducible refine rd_dc ?_) | (with_reducible refine rd_for ?_) | (with_reducible refine rd_tru ?_) | (with_reducible refine rd_truI ?_)
  | (with_reducible refine rd_nil ?_) | (with_reducible refine rd_cons ?_) | (with_reducible refine rd_call ?_) | (with_reducible refine rd_cb ?_)
  | (with_reducible refine rd_tup ?_) | (with_reducible refine rd_lst ?_) | (with_reducible refine rd_dget ?_) | (with_reducible refine rd_dput ?_) | (with_reducible refine rd_dget2 ?_) | (with_reducible refine rd_sl ?_)
  | (with_reducible refine rd_nopart ?_) | (with_reducible refine rd_part ?_) | (with_reducible refine rd_parti ?_) | (with_reducible refine rd_bm ?_) | (with_reducible refine rd_bm0 ?_)
  | (with_reducible refine rd_int ?_) | (with_reducible refine rd_intb ?_) | (with_reducible refine rd_abs ?_) | (with_reducible refine rd_min2 ?_) | (with_reducible refine rd_max2 ?_))
local macro_rules | `(tactic| walk_at "rds") => `(tactic| repeat (walk_at "rd"))
local macro_rules | `(tactic| walk_at "rq") => `(tactic| first
  | (with_reducible refine rd_seq ?_) | (with_reducible refine rd_asg ?_) | (with_reducible refine rd_ret ?_) | (with_reducible refine rd_next ?_)
  | (with_reducible refine rd_drop ?_) | ((with_reducible refine rd_name (σ' := ?ss) ?hs ?_); (case hs => (dsimp only [List.set]; exact rfl)))
  | ((with_reducible refine rd_var (v := ?vv) ?hv ?_); (case hv => exact rfl)) | (with_reducible refine rd_c ?_) | (with_reducible refine rd_op ?_) | (with_reducible refine rd_un ?_)
  | (with_reducible refine rd_I0 ?_) | (with_reducible refine rd_U ?_) | (with_reducible refine rd_test ?_) | (with_reducible refine rd_B ?_) | (with_reducible refine rd_k ?_)
  | (with_reducible refine rd_not ?_) | (with_reducible refine rd_and ?_) | (with_reducible refine rd_or ?_) | (with_reducible refine rd_ifE ?_)
  | (with_reducible refine rd_par ?_) | ((with_reducible refine rd_par2 (σ' := ?ss) ?hs ?_); (case hs => (dsimp only [List.set]; exact rfl)))
  | (with_reducible refine rd_gsub ?_) | (with_reducible refine rd_andV ?_) | (with_reducible refine rd_orV ?_) | (with_reducible refine rd_notV ?_)
  | (with_reducible refine rd_lc ?_) | (with_reducible refine rd_iTup ?_) | (with_reducible refine rd_iList ?_) | (with_reducible refine rd_iRng1 ?_) | (with_reducible refine rd_iRng2 ?_) | (with_reducible refine rd_iEnumT ?_) | (with_reducible refine rd_iEnum ?_) | (with_reducible refine rd_iZipM ?_) | (with_reducible refine rd_iEnumS ?_) | (with_reducible refine rd_iKeys ?_) | (with_reducible refine rd_din ?_) | (with_reducible refine rd_dnotin ?_)
  | (with_reducible refine rd_yes ?_) | (with_reducible refine rd_true ?_) | (with_reducible refine rd_false ?_) | (with_reducible refine rd_m1 ?_) | (with_reducible refine rd_isS ?_)
  | ((with_reducible refine rd_eq ?hs ?_); (case hs => exact rfl)) | ((with_reducible refine rd_ne ?hs ?_); (case hs => exact rfl))
  | (with_reducible refine rd_listRg ?_) | (with_reducible refine rd_rg2 ?_) | (with_reducible refine rd_rgk ?_)
  | (with_reducible refine rd_dnew ?_) | (with_reducible refine rd_ddel ?_) | (with_reducible refine rd_kw ?_) | (with_reducible refine rd_callS ?_) | (with_reducible refine rd_dc ?_) | (with_reducible refine rd_for ?_) | (with_reducible refine rd_tru ?_) | (with_reducible refine rd_truI ?_)
  | (with_reducible refine rd_nil ?_) | (with_reducible refine rd_cons ?_) | (with_reducible refine rd_call ?_) | (with_reducible refine rd_cb ?_)
  | (with_reducible refine rd_tup ?_) | (with_reducible refine rd_lst ?_) | (with_reducible refine rd_dget ?_) | (with_reducible refine rd_dput ?_) | (with_reducible refine rd_dget2 ?_) | (with_reducible refine rd_sl ?_)
  | (with_reducible refine rd_nopart ?_) | (with_reducible refine rd_part ?_) | (with_reducible refine rd_parti ?_) | (with_reducible refine rd_bm ?_) | (with_reducible refine rd_bm0 ?_)
  | (with_reducible refine rd_int ?_) | (with_reducible refine rd_intb ?_) | (with_reducible refine rd_abs ?_) | (with_reducible refine rd_min2 ?_) | (with_reducible refine rd_max2 ?_))
local macro_rules | `(tactic| walk_at "rqs") => `(tactic| repeat (walk_at "rq"))
local macro_rules | `(tactic| walk_at "rv") => `(tactic| first
  | (with_reducible refine rd_seq ?_) | (with_reducible refine rd_asg ?_) | (with_reducible refine rd_ret ?_) | (with_reducible refine rd_next ?_)
  | (with_reducible refine rd_drop ?_) | ((with_reducible refine rd_name (σ' := ?ss) ?hs ?_); (case hs => (dsimp only [List.set]; exact rfl)))
  | ((with_reducible refine rd_var (v := ?vv) ?hv ?_); (case hv => exact rfl)) | (with_reducible refine rd_c ?_) | (with_reducible refine rd_op ?_) | (with_reducible refine rd_un ?_)
  | (with_reducible refine rd_I0 ?_) | (with_reducible refine rd_U ?_) | (with_reducible refine rd_test ?_) | (with_reducible refine rd_B ?_) | (with_reducible refine rd_k ?_)
  | (with_reducible refine rd_not ?_) | (with_reducible refine rd_and ?_) | (with_reducible refine rd_or ?_)
  | (with_reducible refine rd_par ?_) | ((with_reducible refine rd_par2 (σ' := ?ss) ?hs ?_); (case hs => (dsimp only [List.set]; exact rfl)))
  | (with_reducible refine rd_gsub ?_) | (with_reducible refine rd_andV ?_) | (with_reducible refine rd_orV ?_) | (with_reducible refine rd_notV ?_)
  | (with_reducible refine rd_lc ?_) | (with_reducible refine rd_iTup ?_) | (with_reducible refine rd_iList ?_) | (with_reducible refine rd_iRng1 ?_) | (with_reducible refine rd_iRng2 ?_) | (with_reducible refine rd_iEnumT ?_) | (with_reducible refine rd_iEnum ?_) | (with_reducible refine rd_iZipM ?_) | (with_reducible refine rd_iEnumS ?_) | (with_reducible refine rd_iKeys ?_) | (with_reducible refine rd_din ?_) | (with_reducible refine rd_dnotin ?_)
  | (with_reducible refine rd_yes ?_) | (with_reducible refine rd_true ?_) | (with_reducible refine rd_false ?_) | (with_reducible refine rd_m1 ?_) | (with_reducible refine rd_isS ?_)
  | ((with_reducible refine rd_eq ?hs ?_); (case hs => exact rfl)) | ((with_reducible refine rd_ne ?hs ?_); (case hs => exact rfl))
  | (with_reducible refine rd_listRg ?_) | (with_reducible refine rd_rg2 ?_) | (with_reducible refine rd_rgk ?_)
  | (with_reducible refine rd_dnew ?_) | (with_reducible refine rd_ddel ?_) | (with_reducible refine rd_kw ?_) | (with_reducible refine rd_callS ?_) | (with_reducible refine rd_dc ?_) | (with_reducible refine rd_for ?_) | (with_reducible refine rd_tru ?_) | (with_reducible refine rd_truI ?_)
  | (with_reducible refine rd_nil ?_) | (with_reducible refine rd_cons ?_) | (with_reducible refine rd_call ?_) | (with_reducible refine rd_cb ?_)
  | (with_reducible refine rd_tup ?_) | (with_reducible refine rd_lst ?_) | (with_reducible refine rd_dget ?_) | (with_reducible refine rd_dput ?_) | (with_reducible refine rd_dget2 ?_) | (with_reducible refine rd_sl ?_)
  | (with_reducible refine rd_nopart ?_) | (with_reducible refine rd_part ?_) | (with_reducible refine rd_parti ?_) | (with_reducible refine rd_bm ?_) | (with_reducible refine rd_bm0 ?_)
  | (with_reducible refine rd_int ?_) | (with_reducible refine rd_intb ?_) | (with_reducible refine rd_abs ?_) | (with_reducible refine rd_min2 ?_) | (with_reducible refine rd_max2 ?_))
local macro_rules | `(tactic| walk_at "rvs") => `(tactic| repeat (walk_at "rv"))

theorem erase_permG {α : Type} {as : List α} {k : Nat} (h : k < as.length) : as.Perm (as[k] :: as.eraseIdx k) := by
  induction as generalizing k with
  | nil => cases h
  | cons x r ih =>
    cases k with
    | zero => exact List.Perm.refl _
    | succ k =>
      have h' : k < r.length := Nat.lt_of_succ_lt_succ h
      exact ((ih h').cons x).trans (List.Perm.swap _ _ _)
theorem perm_moveG {α : Type} (as bs : List α) (x : α) : (as ++ (bs ++ [x])).Perm ((x :: as) ++ bs) := by
  rw [← List.append_assoc]
  exact (List.perm_append_singleton x (as ++ bs)).trans (List.Perm.refl _)
section
variable {K : PySem.W.Frag} {H : Hp}
theorem dpAll_erase : ∀ {k : Nat} {xs : List V} {ds : List PyData}, DpAll K H xs ds → DpAll K H (xs.eraseIdx k) (ds.eraseIdx k)
  | _, _, _, .nil => .nil
  | 0, _, _, .cons _ t => t
  | k + 1, _, _, .cons h t => .cons h (dpAll_erase (k := k) t)
theorem erase_map {α β : Type} (f : α → β) : ∀ (xs : List α) (k : Nat), (xs.map f).eraseIdx k = (xs.eraseIdx k).map f
  | [], _ => rfl
  | _ :: _, 0 => rfl
  | x :: t, k + 1 => congrArg (f x :: ·) (erase_map f t k)
theorem dpAll_take : ∀ {k : Nat} {xs : List V} {ds : List PyData}, DpAll K H xs ds → DpAll K H (xs.take k) (ds.take k)
  | 0, _, _, _ => .nil
  | _ + 1, _, _, .nil => .nil
  | k + 1, _, _, .cons h t => .cons h (dpAll_take (k := k) t)
theorem dpAll_drop : ∀ {k : Nat} {xs : List V} {ds : List PyData}, DpAll K H xs ds → DpAll K H (xs.drop k) (ds.drop k)
  | 0, _, _, h => h
  | _ + 1, _, _, .nil => .nil
  | k + 1, _, _, .cons _ t => dpAll_drop (k := k) t
end
section
variable {P : Program} {w : World} {K : PySem.W.Frag} {mg : Str → Option Value} {base : Heap}
def spMixedR (K : PySem.W.Frag) : Sp := fun vs H Q _ => ∃ (d l p : Addr) (n : Nat) (xs : List V) (rs : List (List Int)), vs = [.ref d, .ref p] ∧ DeckL d l H ∧ H p = some (.lst xs) ∧ DpAll K H xs (rs.map dR) ∧ (∀ r ∈ rs, Cls n r) ∧ n ≤ 60 ∧ rs.length ≤ 1000 ∧
  ∀ (q : Addr) (ys : List V) (ss : List (List Int)) (H' : Hp), Gl d l H H' → H q = none → H' q = some (.lst ys) → DpAll K H' ys (ss.map dR) → ss.Perm rs → Q (.ref q) H'
theorem ok_mixedR {f fD : Addr} {fd fdD : FuncData} (F : Fun K "_law_mixed" "_law_mixed" s_law_mixed f fd) (T : Bl mg)
    (G_law_draw : FnOk P w K mg base CX0 1 fD fdD ["bag", "many"] spDraw) (C_law_draw : Callee K mg "_law_draw" fD fdD ["bag", "many"]) :
    FnOk P w K mg base CX0 2 f fd ["bag", "row"] (spMixedR K) := by
  refine F.ok sc_law_mixed (fun vs H Q E h => ?_) (fun cdv A outer s H vs Q E hr h => ?_)
  · obtain ⟨d, l, p, n, xs, rs, rfl, _⟩ := h
    rfl
  · obtain ⟨d, l, p, n, xs, rs, rfl, hD, hp, hd, hcl, hn, h2, q⟩ := h
    have lxs : xs.length = rs.length := by rw [dpAll_len hd, List.length_map]
    refine ⟨_, (pss_cons (ps_par (i := 2) (j := 3) rfl sc_law_mixed.nd rfl rfl (by decide) rfl rfl (pa_cons (pe_callTy (c_list (K := K) rfl) (by rfl) T.list (by decide +kernel) (pa_cons (pv 1) pa_nil)) (pa_cons (pe_lst pa_nil) pa_nil)) (by rfl))
 (pss_cons (ps_while PassesOwn.never (pt_cmpR (ok_neD (K := K) rfl hr.units) (pv 2) (pe_lst pa_nil) (nomark _)) (pss_one (ps_expr (pe_bm PySem.F.plainAttrs_list PySem.F.slot_list_append PySem.F.type_list_append mt_append (pv 3) (pa_cons (pe_bm PySem.F.plainAttrs_list PySem.F.slot_list_pop PySem.F.type_list_pop mt_popAt (pv 2) (pa_cons (pe_call G_law_draw (hr.mono (by decide)) (by rfl) C_law_draw.m C_law_draw.k C_law_draw.b .nil pass0 (pa_cons (pv 0) (pa_cons (pe_callB (c_len (K := K) rfl) (by rfl) T.len (by decide +kernel) (pa_cons (pv 2) pa_nil)) pa_nil))) pa_nil)) pa_nil)))))
 (pss_one (ps_ret (pv 3))))), ?_⟩
    refine rd_start (σ' := [some (.ref d), some (.ref p), none, none]) rfl ?_
    walk_at "rds"
    refine rd_listL (SqL.of hp) fun a na => ?_
    have g1 : Gl d l H (upd H a (.lst xs)) := Gl.new hD na
    walk_at "rds"
    refine ⟨Nat.zero_le _, fun b nb => ?_⟩
    have nab : a ≠ b := fun e => by
      rw [e, upd_same] at nb
      cases nb
    have nb0 : H b = none := g1.back hD nb
    walk_at "rds"
    have g10 := g1.trans (Gl.new (o := .lst []) g1.dk nb)
    refine rd_whileE ⟨fun m σ' H' => ∃ (as bs : List V) (ra rb : List (List Int)), σ' = [some (.ref d), some (.ref p), some (.ref a), some (.ref b)] ∧ Gl d l H H' ∧
      H' a = some (.lst as) ∧ H' b = some (.lst bs) ∧ DpAll K H' as (ra.map dR) ∧ DpAll K H' bs (rb.map dR) ∧ as.length = m ∧ (ra ++ rb).Perm rs,
      ⟨xs.length, xs, [], rs, [], rfl, g10, (upd_ne nab).trans upd_same, upd_same, Gl.rows g10 hD hd, .nil, rfl, by rw [List.append_nil]⟩, fun m σ' H' hW => ?_⟩
    obtain ⟨as, bs, ra, rb, rfl, g, ea, eb, da, db, rfl, pm⟩ := hW
    have la : as.length = ra.length := by rw [dpAll_len da, List.length_map]
    have lb : bs.length = rb.length := by rw [dpAll_len db, List.length_map]
    have hlen : ra.length + rb.length = rs.length := by
      rw [← List.length_append]
      exact pm.length_eq
    have hra : ∀ r ∈ ra, Cls n r := fun r hr => hcl r (pm.mem_iff.mp (List.mem_append_left _ hr))
    obtain ⟨ad, al⟩ := hD.off na
    obtain ⟨bd, bl⟩ := hD.off nb0
    walk_at "rds"
    refine ⟨Nat.zero_le _, fun c nc => ?_⟩
    have cx : ∀ {o}, Gl d l H' (upd H' c o) := Gl.new g.dk nc
    have ea1 : (upd H' c (.lst [])) a = _ := (upd_ne (ne_of_none ea nc)).trans ea
    have eb1 : (upd H' c (.lst [])) b = _ := (upd_ne (ne_of_none eb nc)).trans eb
    have da1 := Gl.rows (cx (o := .lst [])) g.dk da
    have db1 := Gl.rows (cx (o := .lst [])) g.dk db
    refine rd_full (SqL.of ea1) da1 ((Nice.lst (nice_clss hn hra)).shaped (by decide)) (SqL.of upd_same) ?_
    walk_at "rds"
    refine rd_iteb (fun c2 => ?_) (fun c2 => ?_)
    · refine ⟨fun σ2 H2 => ∃ (as2 bs2 : List V) (ra2 rb2 : List (List Int)), σ2 = [some (.ref d), some (.ref p), some (.ref a), some (.ref b)] ∧ Gl d l H H2 ∧
        H2 a = some (.lst as2) ∧ H2 b = some (.lst bs2) ∧ DpAll K H2 as2 (ra2.map dR) ∧ DpAll K H2 bs2 (rb2.map dR) ∧ as2.length + 1 = as.length ∧ (ra2 ++ rb2).Perm rs, fun σ2 H2 h => ?_, ?_⟩
      · obtain ⟨as2, bs2, ra2, rb2, e1, e2, e3, e4, e5, e6, e7, e8⟩ := h
        exact ⟨as2.length, by omega, as2, bs2, ra2, rb2, e1, e2, e3, e4, e5, e6, rfl, e8⟩
      · walk_at "rds"
        refine rd_tyL eb1 ?_
        walk_at "rds"
        refine rd_tyL ea1 ?_
        walk_at "rds"
        refine rd_lenL (SqL.of ea1) ?_
        walk_at "rds"
        have hpos : 1 ≤ as.length := by
          cases as with
          | nil => cases c2
          | cons x r => exact Nat.succ_le_succ (Nat.zero_le _)
        refine ⟨d, l, _, rfl, cx.dk, by omega, by omega, fun r H1 g2 r0 r1 => ?_⟩
        have hr1 : r.toNat < as.length := by omega
        have hr2 : r.toNat < ra.length := by omega
        have ea2 : H1 a = _ := g2.kp a _ ad al ea1
        have eb2 : H1 b = _ := g2.kp b _ bd bl eb1
        have da2 := Gl.rows g2 cx.dk da1
        have db2 := Gl.rows g2 cx.dk db1
        walk_at "rds"
        refine rd_popAt (i := r) (k := r.toNat) (y := as[r.toNat]) ea2 (by omega) (List.getElem?_eq_getElem hr1) (by omega) ?_
        have da3 := rows_upd (u := .lst (as.eraseIdx r.toNat)) ea2 da2
        have db3 := rows_upd (u := .lst (as.eraseIdx r.toNat)) ea2 db2
        walk_at "rds"
        have nba : b ≠ a := nab.symm
        have eb3 := (upd_ne (o := .lst (as.eraseIdx r.toNat)) nba).trans eb2
        refine rd_append eb3 (by omega) ?_
        walk_at "rds"
        obtain ⟨d0, hd0, hx⟩ := dpAll_get da3 (List.getElem?_eq_getElem hr1)
        rw [List.getElem?_map, List.getElem?_eq_getElem hr2] at hd0
        cases hd0
        have da4 := dpAll_erase (k := r.toNat) da3
        rw [erase_map] at da4
        refine ⟨as.eraseIdx r.toNat, bs ++ [as[r.toNat]], ra.eraseIdx r.toNat, rb ++ [ra[r.toNat]], rfl, ?_, ?_, upd_same, rows_upd eb3 da4, rows_upd eb3 (rows_app db3 hx), ?_, ?_⟩
        · exact Gl.mut (Gl.mut (g.trans (cx.trans g2)) hD na) hD nb0
        · rw [upd_ne nab, upd_same]
        · rw [List.length_eraseIdx_of_lt hr1]
          omega
        · refine List.Perm.trans ?_ pm
          have e : ra.Perm (ra[r.toNat] :: ra.eraseIdx r.toNat) := erase_permG hr2
          exact (perm_moveG _ _ _).trans (e.symm.append_right rb)
    · have e0 : as = [] := by
        cases as with
        | nil => rfl
        | cons x r => cases c2
      subst e0
      have e1 : ra = [] := List.length_eq_zero_iff.mp la.symm
      subst e1
      walk_at "rds"
      exact q b bs rb _ (g.trans cx) nb0 eb1 db1 pm
end
end KA
set_option Elab.async false
set_option linter.all false
set_option maxRecDepth 100000
set_option maxHeartbeats 400000
set_option pp.maxSteps 300
namespace KA
open PySem PySem.Spec PyProof.Rows L2 Ea
abbrev slaw : Stmt := topS 28
theorem sclaw : FnScope ["script", "bag", "turn", "n", "owners", "rows", "more", "clauses", "pair", "spot", "sentence"] ["script"] (defScope slaw) :=
  ⟨rfl, rfl, rfl, by decide +kernel, rfl, by decide +kernel, by decide +kernel⟩
local macro_rules | `(tactic| walk_at "rd") => `(tactic| first
  | (with_reducible refine rd_seq ?_) | (with_reducible refine rd_asg ?_) | (with_reducible refine rd_if ?_) | (with_reducible refine rd_ret ?_) | (with_reducible refine rd_next ?_)
  | (with_reducible refine rd_drop ?_) | ((with_reducible refine rd_name (σ' := ?ss) ?hs ?_); (case hs => (dsimp only [List.set]; exact rfl)))
  | ((with_reducible refine rd_var (v := ?vv) ?hv ?_); (case hv => exact rfl)) | (with_reducible refine rd_c ?_) | (with_reducible refine rd_op ?_) | (with_reducible refine rd_un ?_)
  | (with_reducible refine rd_I0 ?_) | (with_reducible refine rd_U ?_) | (with_reducible refine rd_test ?_) | (with_reducible refine rd_B ?_) | (with_reducible refine rd_k ?_)
  | (with_reducible refine rd_not ?_) | (with_reducible refine rd_and ?_) | (with_reducible refine rd_or ?_) | (with_reducible refine rd_ifE ?_)
  | (with_reducible refine rd_par ?_) | ((with_reducible refine rd_par2 (σ' := ?ss) ?hs ?_); (case hs => (dsimp only [List.set]; exact rfl)))
  | (with_reducible refine rd_gsub ?_) | (with_reducible refine rd_andV ?_) | (with_reducible refine rd_orV ?_) | (with_reducible refine rd_notV ?_)
  | (with_reducible refine rd_lc ?_) | (with_reducible refine rd_iTup ?_) | (with_reducible refine rd_iList ?_) | (with_reducible refine rd_iRng1 ?_) | (with_reducible refine rd_iRng2 ?_) | (with_reducible refine rd_iEnumT ?_) | (with_reducible refine rd_iEnum ?_) | (with_reducible refine rd_iZipM ?_) | (with_reducible refine rd_iEnumS ?_) | (with_reducible refine rd_iKeys ?_) | (with_reducible refine rd_din ?_) | (with_reducible refine rd_dnotin ?_)
  | (with_reducible refine rd_yes ?_) | (with_reducible refine rd_true ?_) | (with_reducible refine rd_false ?_) | (with_reducible refine rd_m1 ?_) | (with_reducible refine rd_isS ?_)
  | ((with_reducible refine rd_eq ?hs ?_); (case hs => exact rfl)) | ((with_reducible refine rd_ne ?hs ?_); (case hs => exact rfl))
  | (with_reducible refine rd_listRg ?_) | (with_reducible refine rd_rg2 ?_) | (with_reducible refine rd_rgk ?_)
  | (with_reducible refine rd_dnew ?_) | (with_reducible refine rd_ddel ?_) | (with_reducible refine rd_kw ?_) | (with_reducible refine rd_callS ?_) | (with_reducible refine rd_dc ?_) | (with_reducible refine rd_for ?_) | (with_reducible refine rd_tru ?_) | (with_reducible refine rd_truI ?_)
  | (with_reducible refine rd_nil ?_) | (with_reducible refine rd_cons ?_) | (with_reducible refine rd_call ?_) | (with_reducible refine rd_cb ?_)
  | (with_reducible refine rd_tup ?_) | (with_reducible refine rd_lst ?_) | (with_reducible refine rd_dget ?_) | (with_reducible refine rd_dput ?_) | (with_reducible refine rd_dget2 ?_) | (with_reducible refine rd_sl ?_)
  | (with_reducible refine rd_nopart ?_) | (with_reducible refine rd_part ?_) | (with_reducible refine rd_parti ?_) | (with_reducible refine rd_bm ?_) | (with_reducible refine rd_bm0 ?_)
  | (with_reducible refine rd_int ?_) | (with_reducible refine rd_intb ?_) | (with_reducible refine rd_abs ?_) | (with_reducible refine rd_min2 ?_) | (with_reducible refine rd_max2 ?_))
local macro_rules | `(tactic| walk_at "rds") => `(tactic| repeat (walk_at "rd"))
local macro_rules | `(tactic| walk_at "rq") => `(tactic| first
  | (with_reducible refine rd_seq ?_) | (with_reducible refine rd_asg ?_) | (with_reducible refine rd_ret ?_) | (with_reducible refine rd_next ?_)
  | (with_reducible refine rd_drop ?_) | ((with_reducible refine rd_name (σ' := ?ss) ?hs ?_); (case hs => (dsimp only [List.set]; exact rfl)))
  | ((with_reducible refine rd_var (v := ?vv) ?hv ?_); (case hv => exact rfl)) | (with_reducible refine rd_c ?_) | (with_reducible refine rd_op ?_) | (with_reducible refine rd_un ?_)
  | (with_reducible refine rd_I0 ?_) | (with_reducible refine rd_U ?_) | (with_reducible refine rd_test ?_) | (with_reducible refine rd_B ?_) | (with_reducible refine rd_k ?_)
  | (with_reducible refine rd_not ?_) | (with_reducible refine rd_and ?_) | (with_reducible refine rd_or ?_) | (with_reducible refine rd_ifE ?_)
  | (with_reducible refine rd_par ?_) | ((with_reducible refine rd_par2 (σ' := ?ss) ?hs ?_); (case hs => (dsimp only [List.set]; exact rfl)))
  | (with_reducible refine rd_gsub ?_) | (with_reducible refine rd_andV ?_) | (with_reducible refine rd_orV ?_) | (with_reducible refine rd_notV ?_)
  | (with_reducible refine rd_lc ?_) | (with_reducible refine rd_iTup ?_) | (with_reducible refine rd_iList ?_) | (with_reducible refine rd_iRng1 ?_) | (with_reducible refine rd_iRng2 ?_) | (with_reducible refine rd_iEnumT ?_) | (with_reducible refine rd_iEnum ?_) | (with_reducible refine rd_iZipM ?_) | (with_reducible refine rd_iEnumS ?_) | (with_reducible refine rd_iKeys ?_) | (with_reducible refine rd_din ?_) | (with_reducible refine rd_dnotin ?_)
  | (with_reducible refine rd_yes ?_) | (with_reducible refine rd_true ?_) | (with_reducible refine rd_false ?_) | (with_reducible refine rd_m1 ?_) | (with_reducible refine rd_isS ?_)
  | ((with_reducible refine rd_eq ?hs ?_); (case hs => exact rfl)) | ((with_reducible refine rd_ne ?hs ?_); (case hs => exact rfl))
  | (with_reducible refine rd_listRg ?_) | (with_reducible refine rd_rg2 ?_) | (with_reducible refine rd_rgk ?_)
  | (with_reducible refine rd_dnew ?_) | (with_reducible refine rd_ddel ?_) | (with_reducible refine rd_kw ?_) | (with_reducible refine rd_callS ?_) | (with_reducible refine rd_dc ?_) | (with_reducible refine rd_for ?_) | (with_reducible refine rd_tru ?_) | (with_reducible refine rd_truI ?_)
  | (with_reducible refine rd_nil ?_) | (with_reducible refine rd_cons ?_) | (with_reducible refine rd_call ?_) | (with_reducible refine rd_cb ?_)
  | (with_reducible refine rd_tup ?_) | (with_reducible refine rd_lst ?_) | (with_reducible refine rd_dget ?_) | (with_reducible refine rd_dput ?_) | (with_reducible refine rd_dget2 ?_) | (with_reducible refine rd_sl ?_)
  | (with_reducible refine rd_nopart ?_) | (with_reducible refine rd_part ?_) | (with_reducible refine rd_parti ?_) | (with_reducible refine rd_bm ?_) | (with_reducible refine rd_bm0 ?_)
  | (with_reducible refine rd_int ?_) | (with_reducible refine rd_intb ?_) | (with_reducible refine rd_abs ?_) | (with_reducible refine rd_min2 ?_) | (with_reducible refine rd_max2 ?_))
local macro_rules | `(tactic| walk_at "rqs") => `(tactic| repeat (walk_at "rq"))
local macro_rules | `(tactic| walk_at "rv") => `(tactic| first
  | (with_reducible refine rd_seq ?_) | (with_reducible refine rd_asg ?_) | (with_reducible refine rd_ret ?_) | (with_reducible refine rd_next ?_)
  | (with_reducible refine rd_drop ?_) | ((with_reducible refine rd_name (σ' := ?ss) ?hs ?_); (case hs => (dsimp only [List.set]; exact rfl)))
  | ((with_reducible refine rd_var (v := ?vv) ?hv ?_); (case hv => exact rfl)) | (with_reducible refine rd_c ?_) | (with_reducible refine rd_op ?_) | (with_reducible refine rd_un ?_)
  | (with_reducible refine rd_I0 ?_) | (with_reducible refine rd_U ?_) | (with_reducible refine rd_test ?_) | (with_reducible refine rd_B ?_) | (with_reducible refine rd_k ?_)
  | (with_reducible refine rd_not ?_) | (with_reducible refine rd_and ?_) | (with_reducible refine rd_or ?_)
  | (with_reducible refine rd_par ?_) | ((with_reducible refine rd_par2 (σ' := ?ss) ?hs ?_); (case hs => (dsimp only [List.set]; exact rfl)))
  | (with_reducible refine rd_gsub ?_) | (with_reducible refine rd_andV ?_) | (with_reducible refine rd_orV ?_) | (with_reducible refine rd_notV ?_)
  | (with_reducible refine rd_lc ?_) | (with_reducible refine rd_iTup ?_) | (with_reducible refine rd_iList ?_) | (with_reducible refine rd_iRng1 ?_) | (with_reducible refine rd_iRng2 ?_) | (with_reducible refine rd_iEnumT ?_) | (with_reducible refine rd_iEnum ?_) | (with_reducible refine rd_iZipM ?_) | (with_reducible refine rd_iEnumS ?_) | (with_reducible refine rd_iKeys ?_) | (with_reducible refine rd_din ?_) | (with_reducible refine rd_dnotin ?_)
  | (with_reducible refine rd_yes ?_) | (with_reducible refine rd_true ?_) | (with_reducible refine rd_false ?_) | (with_reducible refine rd_m1 ?_) | (with_reducible refine rd_isS ?_)
  | ((with_reducible refine rd_eq ?hs ?_); (case hs => exact rfl)) | ((with_reducible refine rd_ne ?hs ?_); (case hs => exact rfl))
  | (with_reducible refine rd_listRg ?_) | (with_reducible refine rd_rg2 ?_) | (with_reducible refine rd_rgk ?_)
  | (with_reducible refine rd_dnew ?_) | (with_reducible refine rd_ddel ?_) | (with_reducible refine rd_kw ?_) | (with_reducible refine rd_callS ?_) | (with_reducible refine rd_dc ?_) | (with_reducible refine rd_for ?_) | (with_reducible refine rd_tru ?_) | (with_reducible refine rd_truI ?_)
  | (with_reducible refine rd_nil ?_) | (with_reducible refine rd_cons ?_) | (with_reducible refine rd_call ?_) | (with_reducible refine rd_cb ?_)
  | (with_reducible refine rd_tup ?_) | (with_reducible refine rd_lst ?_) | (with_reducible refine rd_dget ?_) | (with_reducible refine rd_dput ?_) | (with_reducible refine rd_dget2 ?_) | (with_reducible refine rd_sl ?_)
  | (with_reducible refine rd_nopart ?_) | (with_reducible refine rd_part ?_) | (with_reducible refine rd_parti ?_) | (with_reducible refine rd_bm ?_) | (with_reducible refine rd_bm0 ?_)
  | (with_reducible refine rd_int ?_) | (with_reducible refine rd_intb ?_) | (with_reducible refine rd_abs ?_) | (with_reducible refine rd_min2 ?_) | (with_reducible refine rd_max2 ?_))
local macro_rules | `(tactic| walk_at "rvs") => `(tactic| repeat (walk_at "rv"))

abbrev KwRev (fd : FuncData) (ks : List Str) : Prop := ∀ (s : Shared) (ws : List Value), ws.length = ks.length → BindsTo s fd ⟨[], ks.reverse.zip ws⟩ (ks.zip ws.reverse)
theorem hrows_app {n : Nat} {rs ss : List (List Int)} (h1 : HRows n rs) (h2 : HRows n ss) : HRows n (rs ++ ss) := fun r hr => (List.mem_append.mp hr).elim (h1 r) (h2 r)
theorem dps_app {K : PySem.W.Frag} {H : Hp} {xs ys : List V} {rs ss : List (List Int)} (h1 : DpAll K H xs (rs.map dR)) (h2 : DpAll K H ys (ss.map dR)) : DpAll K H (xs ++ ys) ((rs ++ ss).map dR) := by
  rw [List.map_append]
  exact dpAll_app h1 h2
section
variable {P : Program} {w : World} {K : PySem.W.Frag} {mg : Str → Option Value} {base : Heap}
def spLaw (K : PySem.W.Frag) : Sp := fun vs H Q _ => ∃ (a : Addr) (ns : List Int), vs = [.ref a] ∧ SqL K H a (ns.map V.int) ∧ ns.length ≤ 63 ∧ ∀ H', Q (.bl true) H'
theorem ok_law {f fK fD fM fU fO fH fS fN fR fI fY C : Addr} {fd fdK fdD fdM fdU fdO fdH fdS fdN fdR fdI fdY : FuncData} (F : Fun K "law" "law" slaw f fd) (T : Bl mg)
    (G_law_bag : FnOk P w K mg base CX0 1 fK fdK ["script"] (spDeck K)) (C_law_bag : Callee K mg "_law_bag" fK fdK ["script"])
    (G_law_draw : FnOk P w K mg base CX0 1 fD fdD ["bag", "many"] spDraw) (C_law_draw : Callee K mg "_law_draw" fD fdD ["bag", "many"])
    (G_law_mixed : FnOk P w K mg base CX0 2 fM fdM ["bag", "row"] (spMixedR K)) (C_law_mixed : Callee K mg "_law_mixed" fM fdM ["bag", "row"])
    (G_law_unlike : FnOk P w K mg base CX0 1 fU fdU ["rows"] (spUnlike K)) (C_law_unlike : Callee K mg "_law_unlike" fU fdU ["rows"])
    (G_law_owners : FnOk P w K mg base CX0 3 fO fdO ["bag", "n"] spOwners) (C_law_owners : Callee K mg "_law_owners" fO fdO ["bag", "n"])
    (G_law_horns : FnOk P w K mg base CX0 3 fH fdH ["bag", "owners", "many"] (spHorns K)) (C_law_horns : Callee K mg "_law_horns" fH fdH ["bag", "owners", "many"])
    (G_law_steps : FnOk P w K mg base CX0 3 fS fdS ["bag", "n"] (spSteps K)) (C_law_steps : Callee K mg "_law_steps" fS fdS ["bag", "n"])
    (G_law_unhorn : FnOk P w K mg base CX0 3 fN fdN ["bag", "n"] (spUnhorn K)) (C_law_unhorn : Callee K mg "_law_unhorn" fN fdN ["bag", "n"])
    (G_law_heard : FnOk P w K mg base CX0 7 fR fdR ["sentence", "u", "is_named"] (spHeard K)) (C_law_heard : Callee K mg "_law_heard" fR fdR ["sentence", "u", "is_named"])
    (G_law_is_right : FnG P w K mg base 8 fI fdI ["bag", "owners", "clauses", "many"] (spIsRight K)) (C_law_is_right : Callee K mg "_law_is_right" fI fdI ["bag", "owners", "clauses", "many"])
    (Gyes_letters : FnOk P w K mg base (L2.CX P w) 6 fY fdY ["sentence", "letter"] (spYesL K C)) (Cyes_letters : Callee K mg "yes_letters" fY fdY ["sentence", "letter"]) :
    FnG P w K mg base 9 f fd ["script"] (spLaw K) := by
  refine okG F sclaw (fun vs H Q E h => ?_) (fun cdv A outer s H vs Q E hr hg h => ?_)
  · obtain ⟨a, ns, rfl, _⟩ := h
    rfl
  · obtain ⟨a, ns, rfl, ha, hl, q⟩ := h
    refine ⟨_, (pss_cons (ps_set (i := 1) sclaw.nd rfl (Or.inl rfl) (pe_call G_law_bag (hr.mono (by decide)) (by rfl) C_law_bag.m C_law_bag.k C_law_bag.b .nil pass0 (pa_cons (pv 0) pa_nil)))
 (pss_cons (ps_for PassesOwn.never rfl (pi_range1 (by rfl) T.range (pa_cons pe_int pa_nil)) (pg_name (i := 2) sclaw.nd rfl (Or.inl rfl)) (pss_cons (ps_set (i := 3) sclaw.nd rfl (Or.inl rfl) (pe_ifExp (PW.pt (pw_and (pt_cmpR op_eq (pv 2) pe_int (nomark _)) (pw_and1 (pt_cmpR op_eq (pe_call G_law_draw (hr.mono (by decide)) (by rfl) C_law_draw.m C_law_draw.k C_law_draw.b .nil pass0 (pa_cons (pv 1) (pa_cons pe_int pa_nil))) pe_int (nomark _))))) pe_int (pe_op op_add pe_int (pe_call G_law_draw (hr.mono (by decide)) (by rfl) C_law_draw.m C_law_draw.k C_law_draw.b .nil pass0 (pa_cons (pv 1) (pa_cons pe_int pa_nil))))))
 (pss_cons (ps_set (i := 4) sclaw.nd rfl (Or.inl rfl) (pe_call G_law_owners (hr.mono (by decide)) (by rfl) C_law_owners.m C_law_owners.k C_law_owners.b .nil pass0 (pa_cons (pv 1) (pa_cons (pv 3) pa_nil))))
 (pss_cons (ps_set (i := 5) sclaw.nd rfl (Or.inl rfl) (pe_ifExp (pt_cmpR op_eq (pe_call G_law_draw (hr.mono (by decide)) (by rfl) C_law_draw.m C_law_draw.k C_law_draw.b .nil pass0 (pa_cons (pv 1) (pa_cons pe_int pa_nil))) pe_int (nomark _)) (pe_call G_law_steps (hr.mono (by decide)) (by rfl) C_law_steps.m C_law_steps.k C_law_steps.b .nil pass0 (pa_cons (pv 1) (pa_cons (pv 3) pa_nil))) (pe_lst pa_nil)))
 (pss_cons (ps_set (i := 6) sclaw.nd rfl (Or.inl rfl) (pe_call G_law_horns (hr.mono (by decide)) (by rfl) C_law_horns.m C_law_horns.k C_law_horns.b .nil pass0 (pa_cons (pv 1) (pa_cons (pv 4) (pa_cons (pe_op op_add pe_int (pe_call G_law_draw (hr.mono (by decide)) (by rfl) C_law_draw.m C_law_draw.k C_law_draw.b .nil pass0 (pa_cons (pv 1) (pa_cons (pe_op op_mul pe_int (pe_callB (c_min2 rfl) (by rfl) T.min (by decide +kernel) (pa_cons (pv 3) (pa_cons pe_int pa_nil)))) pa_nil)))) pa_nil)))))
 (pss_cons (ps_set (i := 6) sclaw.nd rfl (Or.inl rfl) (pe_op op_cat (pv 6) (pe_ifExp (pt_cmpR op_eq (pe_call G_law_draw (hr.mono (by decide)) (by rfl) C_law_draw.m C_law_draw.k C_law_draw.b .nil pass0 (pa_cons (pv 1) (pa_cons pe_int pa_nil))) pe_int (nomark _)) (pe_lst (pa_cons (pe_tup pa_nil) pa_nil)) (pe_lst pa_nil))))
 (pss_cons (ps_set (i := 7) sclaw.nd rfl (Or.inl rfl) (pe_callTy (c_tuple (K := K) rfl) (by rfl) T.tuple (by decide +kernel) (pa_cons (pe_call G_law_unlike (hr.mono (by decide)) (by rfl) C_law_unlike.m C_law_unlike.k C_law_unlike.b .nil pass0 (pa_cons (pe_call G_law_mixed (hr.mono (by decide)) (by rfl) C_law_mixed.m C_law_mixed.k C_law_mixed.b .nil pass0 (pa_cons (pv 1) (pa_cons (pe_op op_cat (pv 5) (pv 6)) pa_nil))) pa_nil)) pa_nil)))
 (pss_cons (ps_if (pt_not (pt_val (pe_callG G_law_is_right (hr.mono (by decide)) hg (by rfl) C_law_is_right.m C_law_is_right.k C_law_is_right.b (pa_cons (pv 1) (pa_cons (pv 4) (pa_cons (pv 7) (pa_cons (pe_ifExp (pt_cmpR op_lt (pv 3) pe_int (nomark _)) pe_int pe_int) pa_nil))))))) (pss_one (ps_ret pe_bl)) pss_nil)
 (pss_one (ps_if (pt_cmpR op_gt (pv 3) pe_int (nomark _)) (pss_cons (ps_set (i := 8) sclaw.nd rfl (Or.inl rfl) (pe_call G_law_unhorn (hr.mono (by decide)) (by rfl) C_law_unhorn.m C_law_unhorn.k C_law_unhorn.b .nil pass0 (pa_cons (pv 1) (pa_cons (pv 3) pa_nil))))
 (pss_cons (ps_set (i := 9) sclaw.nd rfl (Or.inl rfl) (pe_call G_law_draw (hr.mono (by decide)) (by rfl) C_law_draw.m C_law_draw.k C_law_draw.b .nil pass0 (pa_cons (pv 1) (pa_cons (pe_op op_add (pe_callB (c_len (K := K) rfl) (by rfl) T.len (by decide +kernel) (pa_cons (pv 7) pa_nil)) pe_int) pa_nil))))
 (pss_cons (ps_set (i := 10) sclaw.nd rfl (Or.inl rfl) (pe_tup (pa_cons (pv 4) (pa_cons (pe_op (ok_catT (K := K) rfl) (pe_op (ok_catT (K := K) rfl) (pe_slice (sk_tup (K := K) rfl) (pv 7) po_none (po_some (pv 9))) (pe_tup (pa_cons (pv 8) pa_nil))) (pe_slice (sk_tup (K := K) rfl) (pv 7) (po_some (pv 9)) po_none)) pa_nil))))
 (pss_one (ps_if (pt_cmpR (ok_neD (K := K) rfl hr.units) (pe_call G_law_heard (hr.mono (by decide)) (by rfl) C_law_heard.m C_law_heard.k C_law_heard.b .nil pass0 (pa_cons (pv 10) (pa_cons pe_int (pa_cons (pe_cmpR op_eq (pv 2) pe_int (nomark _)) pa_nil)))) (pe_lst (pa_cons pe_str (pa_cons pe_bl pa_nil))) (nomark _)) (pss_one (ps_ret pe_bl)) pss_nil))))) pss_nil))))))))))
 (pss_one (ps_ret (pe_cmpR op_eq (pe_callB (c_repr (K := K) rfl hg hr.units) (by rfl) T.repr (by decide +kernel) (pa_cons (pe_lst (pa_cons (pe_call Gyes_letters (hr.mono (by decide)) (by rfl) Cyes_letters.m Cyes_letters.k Cyes_letters.b .nil passL (pa_cons (pe_tup (pa_cons pe_str (pa_cons (pe_tup pa_nil) pa_nil))) (pa_cons pe_int pa_nil))) (pa_cons (pe_call Gyes_letters (hr.mono (by decide)) (by rfl) Cyes_letters.m Cyes_letters.k Cyes_letters.b .nil passL (pa_cons (pe_tup (pa_cons pe_str (pa_cons (pe_tup (pa_cons (pe_tup pa_nil) pa_nil)) pa_nil))) (pa_cons pe_int pa_nil))) pa_nil))) pa_nil)) (pe_callB (c_repr (K := K) rfl hg hr.units) (by rfl) T.repr (by decide +kernel) (pa_cons (pe_lst (pa_cons (pe_tup pa_nil) (pa_cons (pe_tup pa_nil) pa_nil))) pa_nil)) (nomark _)))))), ?_⟩
    refine rd_start (σ' := [some (.ref a), none, none, none, none, none, none, none, none, none, none]) rfl ?_
    walk_at "rvs"
    refine ⟨a, ns, rfl, ha, hl, fun d l H1 e1 hd hl0 hD1 => ?_⟩
    walk_at "rvs"
    refine rd_rng1 (by decide) (by decide) ?_
    refine fr_range (lo := 0) (n := 5) (fun i σ' H' => ∃ x2 x3 x4 x5 x6 x7 x8 x9 xa : Option V, σ' = [some (.ref a), some (.ref d), x2, x3, x4, x5, x6, x7, x8, x9, xa] ∧ DeckL d l H')
      ⟨_, _, _, _, _, _, _, _, _, rfl, hD1⟩ (fun i σ' H2 hi hP => ?_) fun σ' H2 hP => ?_
    · obtain ⟨x2, x3, x4, x5, x6, x7, x8, x9, xa, rfl, hD2⟩ := hP
      refine rd_start (σ' := [some (.ref a), some (.ref d), some (.int (0 + (i : Int))), x3, x4, x5, x6, x7, x8, x9, xa]) rfl ?_
      walk_at "rvs"
      refine rd_ifV (fun v H' => ∃ n : Int, v = .int n ∧ Gl d l H2 H' ∧ 1 ≤ n ∧ n ≤ 60) (fun N kN => ?_) fun v H3 hv => ?_
      · have other : ∀ (H' : Hp) (r : Int), Gl d l H2 H' → 0 ≤ r → r < 10 → N (.int (1 + r)) H' := fun H' r g r0 r1 => kN _ _ ⟨1 + r, rfl, g, by omega, by omega⟩
        walk_at "rds"
        refine rd_ite (fun c => ?_) (fun c => ?_)
        · walk_at "rds"
          refine ⟨d, l, 6, rfl, hD2, by decide, by decide, fun r H3 g3 r0 r1 => ?_⟩
          walk_at "rds"
          refine rd_ite (fun c => ?_) (fun c => ?_)
          · walk_at "rds"
            exact kN _ _ ⟨60, rfl, g3, by decide, by decide⟩
          · walk_at "rds"
            refine ⟨d, l, 10, rfl, g3.dk, by decide, by decide, fun r H4 g4 r0 r1 => ?_⟩
            walk_at "rds"
            exact other _ r (g3.trans g4) r0 r1
        · walk_at "rds"
          refine ⟨d, l, 10, rfl, hD2, by decide, by decide, fun r H4 g4 r0 r1 => ?_⟩
          walk_at "rds"
          exact other _ r g4 r0 r1
      obtain ⟨n', rfl, g3, n0, n1⟩ := hv
      obtain ⟨n, rfl⟩ : ∃ n : Nat, n' = (n : Int) := ⟨n'.toNat, by omega⟩
      have hD3 := g3.dk
      clear g3 hD2
      walk_at "rvs"
      refine ⟨d, l, (n : Int), rfl, hD3, by omega, n1, fun z H4 g4 hz => ?_⟩
      rw [Int.toNat_natCast] at hz
      have hD4 := g4.dk
      clear g4 hD3
      walk_at "rvs"
      refine rd_ifV (fun v H' => ∃ (q1 : Addr) (ys : List V) (rs : List (List Int)), v = .ref q1 ∧ DeckL d l H' ∧ q1 ≠ d ∧ q1 ≠ l ∧ H' q1 = some (.lst ys) ∧ DpAll K H' ys (rs.map dR) ∧ HRows n rs ∧ rs.length ≤ 60) (fun N kN => ?_) fun v H5 hv => ?_
      · walk_at "rds"
        refine ⟨d, l, 2, rfl, hD4, by decide, by decide, fun r H5 g5 r0 r1 => ?_⟩
        walk_at "rds"
        refine rd_ite (fun c => ?_) (fun c => ?_)
        · walk_at "rds"
          exact ⟨d, l, n, rfl, g5.dk, by omega, fun q1 ys rs H6 g6 hq hq2 hd hrs hlen => kN _ _ ⟨q1, ys, rs, rfl, g6.dk, (g5.dk.off hq).1, (g5.dk.off hq).2, hq2, hd, hrs, hlen⟩⟩
        · walk_at "rds"
          exact ⟨Nat.zero_le _, fun p hp => kN _ _ ⟨p, [], [], rfl, (Gl.new g5.dk hp).dk, (g5.dk.off hp).1, (g5.dk.off hp).2, upd_same, .nil, nofun, Nat.zero_le _⟩⟩
      obtain ⟨q1, ys, rs, rfl, hD5, q1d, q1l, hq1, hd5, hrs5, len5⟩ := hv
      walk_at "rds"
      have hmin : 1 ≤ (if (12 : Int) < (n : Int) then (12 : Int) else (n : Int)) ∧ (if (12 : Int) < (n : Int) then (12 : Int) else (n : Int)) ≤ 12 := by split <;> omega
      generalize (if (12 : Int) < (n : Int) then (12 : Int) else (n : Int)) = mn at hmin ⊢
      refine rd_I (.inl ⟨by decide, by decide⟩) ?_
      walk_at "rds"
      refine ⟨d, l, _, rfl, hD5, by omega, by omega, fun r H6 g6 r0 r1 => ?_⟩
      walk_at "rds"
      refine ⟨d, l, n, z, _, rfl, g6.dk, hz, by omega, by omega, by omega, fun q2 ys2 rs2 H7 g7 hq2 hq2' hd7 hrs7 len7 => ?_⟩
      have g67 := g6.trans g7
      have hq17 := g67.kp q1 _ q1d q1l hq1
      have hd57 := Gl.rows g67 hD5 hd5
      obtain ⟨q2d, q2l⟩ := g6.dk.off hq2
      have hD7 := g7.dk
      have len7' : rs2.length ≤ 30 := by omega
      clear g67 g6 g7 hq1 hd5 hD5 hq2 len7
      walk_at "rvs"
      refine rd_ifV (fun v H' => ∃ (q3 : Addr) (ys : List V) (rs : List (List Int)), v = .ref q3 ∧ Gl d l H7 H' ∧ H' q3 = some (.lst ys) ∧ DpAll K H' ys (rs.map dR) ∧ HRows n rs ∧ rs.length ≤ 1) (fun N kN => ?_) fun v H8 hv => ?_
      · walk_at "rds"
        refine ⟨d, l, 8, rfl, hD7, by decide, by decide, fun r H8 g8 r0 r1 => ?_⟩
        walk_at "rds"
        refine rd_ite (fun c => ?_) (fun c => ?_)
        · walk_at "rds"
          refine ⟨Nat.zero_le _, fun p hp => ?_⟩
          have gp := Gl.new (o := .tup []) g8.dk hp
          walk_at "rds"
          refine ⟨(by show 1 ≤ sizeLine; decide), fun p2 hp2 => ?_⟩
          have gp2 := Gl.new (o := .lst [V.ref p]) gp.dk hp2
          exact kN _ _ ⟨p2, [V.ref p], [[]], rfl, (g8.trans gp).trans gp2, upd_same, .cons (dp_of_row (gp2.tup gp.dk (SqT.of upd_same))) .nil, fun r hr => by rw [List.mem_singleton.mp hr]; exact ⟨⟨nofun, Nat.zero_le _⟩, Nat.zero_le _⟩, Nat.le_refl _⟩
        · walk_at "rds"
          exact ⟨Nat.zero_le _, fun p hp => kN _ _ ⟨p, [], [], rfl, g8.trans (Gl.new g8.dk hp), upd_same, .nil, nofun, Nat.zero_le _⟩⟩
      obtain ⟨q3, ys3, rs3, rfl, g8, hq3, hd8, hrs8, len8⟩ := hv
      have hq28 := g8.kp q2 _ q2d q2l hq2'
      have hq18 := g8.kp q1 _ q1d q1l hq17
      have hd58 := Gl.rows g8 hD7 hd57
      have hd78 := Gl.rows g8 hD7 hd7
      have ly5 : ys.length = rs.length := by rw [dpAll_len hd58, List.length_map]
      have ly7 : ys2.length = rs2.length := by rw [dpAll_len hd78, List.length_map]
      have ly8 : ys3.length = rs3.length := by rw [dpAll_len hd8, List.length_map]
      refine rd_catL hq28 hq3 (by rw [sizeLine_eq]; omega) fun q4 hq4 => ?_
      have e9 := Evl.Ex.new (o := .lst (ys2 ++ ys3)) hq4
      walk_at "rvs"
      refine rd_catL (e9 _ _ hq18) upd_same (by rw [List.length_append, sizeLine_eq]; omega) fun q5 hq5 => ?_
      have e10 := e9.trans (Evl.Ex.new (o := .lst (ys ++ (ys2 ++ ys3))) hq5)
      have gA := Gl.ex e10 g8.dk
      have hdA := dpAll_ex e10 _ _ (dps_app hd58 (dps_app hd78 hd8))
      have hrsA := hrows_app hrs5 (hrows_app hrs7 hrs8)
      have lenA : (rs ++ (rs2 ++ rs3)).length ≤ 100 := by rw [List.length_append, List.length_append]; omega
      generalize rs ++ (rs2 ++ rs3) = rsA at hdA hrsA lenA
      walk_at "rvs"
      refine ⟨d, l, q5, n, _, rsA, rfl, gA.dk, upd_same, hdA, fun r hr => (hrsA r hr).1, by omega, by omega, fun q6 ys6 rs6 HB gB hq6 hq6' hdB pm => ?_⟩
      walk_at "rvs"
      have len6 : rs6.length ≤ 100 := by rw [pm.length_eq]; exact lenA
      refine ⟨q6, ys6, rs6, n, rfl, SqL.of hq6', hdB, fun r hr => (hrsA r (pm.mem_iff.mp hr)).1, by omega, by omega, fun q7 ys7 rs7 HC eC hq7 hq7' hdC hsub _ => ?_⟩
      have hrs7C : HRows n rs7 := fun r hr => hrsA r (pm.mem_iff.mp (hsub.subset hr))
      have len7C : rs7.length ≤ 100 := Nat.le_trans hsub.length_le len6
      walk_at "rvs"
      refine rd_tupL (SqL.of hq7') fun cc hcc => ?_
      have eD := Evl.Ex.new (o := .tup ys7) hcc
      have hdD := dpAll_ex eD _ _ hdC
      have gD := Gl.ex (eC.trans eD) gB.dk
      have hDD := gD.dk
      have sc : SqT K (upd HC cc (.tup ys7)) cc ys7 := SqT.of upd_same
      have ly : ys7.length = rs7.length := by rw [dpAll_len hdC, List.length_map]
      clear eD hcc eC hq7 hq7' hdC hsub hq6 hq6' hdB pm len6 gB gD gA hdA hrsA lenA e10 e9 hq5 hq4 hd8 hq3 g8 hd58 hd78 hq28 hq18 hq17 hd57 hq2' hd7 hD7
      generalize upd HC cc (.tup ys7) = HD at hdD hDD sc ⊢
      walk_at "rvs"
      refine rd_not ?_
      walk_at "rvs"
      refine rd_ifV (fun v H' => ∃ m : Int, v = .int m ∧ H' = HD ∧ 0 ≤ m ∧ m ≤ 100) (fun N kN => ?_) fun v H5 hv => ?_
      · walk_at "rds"
        refine rd_ite (fun c => ?_) (fun c => ?_)
        · walk_at "rds"
          exact kN _ _ ⟨5, rfl, rfl, by decide, by decide⟩
        · walk_at "rds"
          exact kN _ _ ⟨1, rfl, rfl, by decide, by decide⟩
      obtain ⟨m, rfl, rfl, m0, m1⟩ := hv
      walk_at "rds"
      refine ⟨d, l, cc, n, z, ys7, rs7, m, rfl, hDD, sc, hdD, hz, by omega, hrs7C, by omega, m0, m1, fun HE gE => ?_⟩
      walk_at "rds"
      refine rd_false ?_
      walk_at "rds"
      refine rd_ite (fun c1 => ?_) (fun c1 => ?_)
      · walk_at "rds"
        refine ⟨d, l, n, rfl, gE.dk, by omega, by omega, fun qp rp HF gF sp hcp hnp => ?_⟩
        have scF := gF.tup gE.dk (gE.tup hDD sc)
        have hdF := Gl.rows gF gE.dk (Gl.rows gE hDD hdD)
        walk_at "rds"
        refine rd_lenT scF ?_
        walk_at "rds"
        refine ⟨d, l, _, rfl, gF.dk, by omega, by omega, fun st HG gG s0 s1 => ?_⟩
        have scG := gG.tup gF.dk scF
        have hdG := Gl.rows gG gF.dk hdF
        have spG := gG.tup gF.dk sp
        walk_at "rds"
        refine rd_slT scG fun c1' F1 f1 u1 => ?_
        rw [cut_take s0] at u1
        walk_at "rds"
        refine ⟨(by show 1 ≤ sizeLine; decide), fun c2 hc2 => ?_⟩
        have f2 := Evl.Ex.new (o := .tup [V.ref qp]) hc2
        refine rd_catT (Evl.ex_t f2 u1) (SqT.of upd_same) (by rw [List.length_take, List.length_singleton, sizeLine_eq]; omega) fun c3 F3 f3 u3 => ?_
        walk_at "rds"
        refine rd_slT (Evl.ex_t ((f1.trans f2).trans f3) scG) fun c4 F4 f4 u4 => ?_
        rw [cut_drop s0] at u4
        refine rd_catT (Evl.ex_t f4 u3) u4 (by rw [List.length_append, List.length_take, List.length_singleton, List.length_drop, sizeLine_eq]; omega) fun c5 F5 f5 u5 => ?_
        have fAll := (((f1.trans f2).trans f3).trans f4).trans f5
        walk_at "rds"
        refine ⟨(by show 2 ≤ sizeLine; decide), fun c6 hc6 => ?_⟩
        have f6 := Evl.Ex.new (o := .tup [V.str z, .ref c5]) hc6
        have gH := (gE.trans gF).trans (gG.trans (Gl.ex (fAll.trans f6) gG.dk))
        have hdH := dpAll_ex (fAll.trans f6) _ _ hdG
        have hdp : Dp K (upd F5 c6 (.tup [V.str z, .ref c5])) (.ref qp) (dR rp) := dp_of_row (Evl.ex_t (fAll.trans f6) spG)
        have hdAll : DpAll K (upd F5 c6 (.tup [V.str z, .ref c5])) (ys7.take st.toNat ++ [V.ref qp] ++ ys7.drop st.toNat) ((rs7.take st.toNat ++ [rp] ++ rs7.drop st.toNat).map dR) := by
          have h1 := dpAll_take (k := st.toNat) hdH
          have h2 := dpAll_drop (k := st.toNat) hdH
          rw [← List.map_take] at h1
          rw [← List.map_drop] at h2
          exact dps_app (rows_app h1 hdp) h2
        have hno : ¬ Asked n z (rs7.take st.toNat ++ [rp] ++ rs7.drop st.toNat) 0 := fun h => hnp (h.1 rp (List.mem_append_left _ (List.mem_append_right _ List.mem_cons_self)))
        have hcls : ∀ r ∈ rs7.take st.toNat ++ [rp] ++ rs7.drop st.toNat, Cls n r := fun r hr => by
          rcases List.mem_append.mp hr with hr | hr
          · rcases List.mem_append.mp hr with hr | hr
            · exact (hrs7C r (List.mem_of_mem_take hr)).1
            · rw [List.mem_singleton.mp hr]
              exact hcp
          · exact (hrs7C r (List.mem_of_mem_drop hr)).1
        have hsen : SentC K (upd F5 c6 (.tup [V.str z, .ref c5])) n c6 c5 z (rs7.take st.toNat ++ [rp] ++ rs7.drop st.toNat) := ⟨_, SqT.of upd_same, Evl.ex_t f6 u5, hdAll, hz, by omega, hcls, by
          rw [List.length_append, List.length_append, List.length_take, List.length_singleton, List.length_drop]
          omega⟩
        walk_at "rds"
        refine ⟨c6, c5, z, n, _, 0, _, rfl, hsen, fun qh dh HI eI hh kh => ?_⟩
        have edh : dh = .list [.str "unfit", .bool true] := by
          rcases hh with ⟨h, _⟩ | ⟨_, rfl⟩
          · exact absurd h hno
          · rfl
        subst edh
        walk_at "rds"
        refine ⟨(by show 2 ≤ sizeLine; decide), fun p5 hp5 => ?_⟩
        have eL := Evl.Ex.new (o := .lst [V.str "unfit", .bl true]) hp5
        refine rd_neD (d := .list [.str "unfit", .bool true]) (e := .list [.str "unfit", .bool true]) (dp_ex eL _ _ kh) (.lst (SqL.of upd_same) (.cons (.str _) (.cons (.bl _) .nil))) nice_unf nice_unf (by decide) (by decide) ?_
        have ee : (!PyData.eqv (.list [.str "unfit", .bool true]) (.list [.str "unfit", .bool true])) = false := by rw [SeqAt.eqv_refl _ nice_unf.lay] <;> rfl
        rw [ee]
        walk_at "rds"
        exact ⟨_, _, _, _, _, _, _, _, _, rfl, (gH.trans (Gl.ex (eI.trans eL) gH.dk)).dk⟩
      · walk_at "rds"
        exact ⟨_, _, _, _, _, _, _, _, _, rfl, gE.dk⟩
    · obtain ⟨x2, x3, x4, x5, x6, x7, x8, x9, xa, rfl, hD2⟩ := hP
      clear ha hD1 e1 hd hl0
      have zero : ∀ {u : Int} {rs : List (List Int)} {ys : List Int}, YesT 0 "" rs u ys → ys = [] := fun {u rs ys} h => by
        have := h.len
        exact List.length_eq_zero_iff.mp (by omega)
      have nE : Nice 2 2 (.list [.tuple [], .tuple []]) := (Nice.lst ((Nice.tup (NiceAll.nil (k := 0))).cons2 (Nice.tup NiceAll.nil))).mono (by decide) (by decide)
      walk_at "rds"
      refine ⟨Nat.zero_le _, fun p1 hp1 => ?_⟩
      have e1 := Evl.Ex.new (o := .tup []) hp1
      walk_at "rds"
      refine ⟨(by show 2 ≤ sizeLine; decide), fun p2 hp2 => ?_⟩
      have e2 := Evl.Ex.new (o := .tup [V.str "", .ref p1]) hp2
      walk_at "rds"
      refine ⟨p2, p1, "", 0, [], 0, rfl, ⟨[], SqT.of upd_same, Evl.ex_t e2 (SqT.of upd_same), .nil, ⟨rfl, by decide⟩, by decide, nofun, by decide⟩, fun _ qa ya Ha ea hya sa => ?_, fun h => absurd ⟨nofun, .inl rfl⟩ h⟩
      have z1 := zero hya
      subst z1
      walk_at "rds"
      refine ⟨Nat.zero_le _, fun p3 hp3 => ?_⟩
      have e3 := Evl.Ex.new (o := .tup []) hp3
      walk_at "rds"
      refine ⟨(by show 1 ≤ sizeLine; decide), fun p4 hp4 => ?_⟩
      have e4 := Evl.Ex.new (o := .tup [V.ref p3]) hp4
      walk_at "rds"
      refine ⟨(by show 2 ≤ sizeLine; decide), fun p5 hp5 => ?_⟩
      have e5 := Evl.Ex.new (o := .tup [V.str "", .ref p4]) hp5
      walk_at "rds"
      have hh1 : Horn [] := Nat.zero_le _
      refine ⟨p5, p4, "", 0, [[]], 0, rfl, ⟨[V.ref p3], SqT.of upd_same, Evl.ex_t e5 (SqT.of upd_same), .cons (dp_of_row (r := []) (Evl.ex_t (e4.trans e5) (SqT.of upd_same))) .nil, ⟨rfl, by decide⟩, by decide, fun r hr => by rw [List.mem_singleton.mp hr]; exact ⟨nofun, Nat.zero_le _⟩, by decide⟩, fun _ qb yb Hb eb hyb sb => ?_, fun h => absurd ⟨fun r hr => by rw [List.mem_singleton.mp hr]; exact hh1, .inl rfl⟩ h⟩
      have z2 := zero hyb
      subst z2
      walk_at "rds"
      refine ⟨(by show 2 ≤ sizeLine; decide), fun p6 hp6 => ?_⟩
      have e6 := Evl.Ex.new (o := .lst [V.ref qa, .ref qb]) hp6
      walk_at "rds"
      refine rd_repr (d := .list [.tuple [], .tuple []]) (.lst (SqL.of upd_same) (.cons (.tup (Evl.ex_t ((((e3.trans e4).trans e5).trans eb).trans e6) sa) .nil) (.cons (.tup (Evl.ex_t e6 sb) .nil) .nil))) nE (by decide) (by decide) rfl ?_
      walk_at "rds"
      refine ⟨Nat.zero_le _, fun p7 hp7 => ?_⟩
      have e7 := Evl.Ex.new (o := .tup []) hp7
      walk_at "rds"
      refine ⟨Nat.zero_le _, fun p8 hp8 => ?_⟩
      have e8 := Evl.Ex.new (o := .tup []) hp8
      walk_at "rds"
      refine ⟨(by show 2 ≤ sizeLine; decide), fun p9 hp9 => ?_⟩
      have e9 := Evl.Ex.new (o := .lst [V.ref p7, .ref p8]) hp9
      walk_at "rds"
      refine rd_repr (d := .list [.tuple [], .tuple []]) (.lst (SqL.of upd_same) (.cons (.tup (Evl.ex_t (e8.trans e9) (SqT.of upd_same)) .nil) (.cons (.tup (Evl.ex_t e9 (SqT.of upd_same)) .nil) .nil))) nE (by decide) (by decide) rfl ?_
      walk_at "rds"
      have ee : decide (V.str (PyData.list [.tuple [], .tuple []]).shown = V.str (PyData.list [.tuple [], .tuple []]).shown) = true := decide_eq_true rfl
      rw [ee]
      exact q _
end
end KA
set_option Elab.async false
set_option linter.all false
set_option maxRecDepth 100000
set_option maxHeartbeats 400000
namespace KA
open PySem PySem.Spec PyProof.Rows L2 Ea
theorem cls_if {K : PySem.W.Frag} {S : Addr} {o : Option Bool} (h2 : PySem.W.isClsIn K S = true) (h3 : PySem.W.typeIn K (.ref S) = some (.type "type")) :
    (if ((PySem.W.clsIn K S).isSome && PySem.W.typeIn K (.ref S) == some (.type "type")) = true then o else none) = o := by
  have q : (PySem.W.clsIn K S).isSome = true := h2
  rw [q, h3]
  exact if_pos rfl
theorem kit_up {K : PySem.W.Frag} {t : Value} {S : Addr} (h2 : PySem.W.isClsIn K S = true) (h3 : PySem.W.typeIn K (.ref S) = some (.type "type")) (h4 : PySem.W.subIn K t (.ref S) = some true) : PySem.W.kitOne K t (.ref S) = some true := by
  have e : PySem.W.kitCls K t (.ref S) = some true := (cls_if h2 h3).trans h4
  unfold PySem.W.kitOne
  rw [e]
  split <;> rfl
theorem kit_ty {K : PySem.W.Frag} {t : Value} (h : PySem.W.subIn K t (.type "ValueError") = some true) : PySem.W.kitOne K t (.type "ValueError") = some true := by
  have m : PySem.W.kitMeta "ValueError" = true := by first | decide +kernel | rfl | kernel_rfl
  have e : PySem.W.kitCls K t (.type "ValueError") = some true := by
    show (if PySem.W.kitMeta "ValueError" = true then PySem.W.subIn K t (.type "ValueError") else none) = some true
    rw [if_pos m]
    exact h
  unfold PySem.W.kitOne
  rw [e]
  split <;> rfl
theorem exm_same {K : PySem.W.Frag} {S : Addr} (h1 : PySem.W.subIn K (.ref S) (.type "BaseException") = some true) (h2 : PySem.W.isClsIn K S = true) (h3 : PySem.W.typeIn K (.ref S) = some (.type "type")) (h4 : PySem.W.subIn K (.ref S) (.ref S) = some true) : PySem.W.exmOne K (.ref S) (.ref S) = some true := by
  have e : PySem.W.kitCls K (.ref S) (.ref S) = some true := (cls_if h2 h3).trans h4
  unfold PySem.W.exmOne
  rw [h1, e]
  exact if_pos rfl
theorem all_mk {l : PySem.W.OpenLaw} {w : World} {K : PySem.W.Frag} {h : Heap} {mg : Str → Option Value} {fa f0 f1 f2 f3 f4 f5 f6 f7 f8 f9 f10 f11 f12 f13 f14 f15 f16 f17 f18 f19 f20 f21 f22 C CG : Addr} (X : K.In h) (G : h.Ns mainGlobals mg) (hfa : mg "law" = some (.ref fa))
    {od0 an0 : Option Addr} {sl0 : Array (Option Value)} {oc0 kV0 dc0 pm0 cd0 ct0 : Value} {od1 an1 : Option Addr} {sl1 : Array (Option Value)} {oc1 kV1 dc1 pm1 cd1 ct1 : Value} {od2 an2 : Option Addr} {sl2 : Array (Option Value)} {oc2 kV2 dc2 pm2 cd2 ct2 : Value} {od3 an3 : Option Addr} {sl3 : Array (Option Value)} {oc3 kV3 dc3 pm3 cd3 ct3 : Value} {od4 an4 : Option Addr} {sl4 : Array (Option Value)} {oc4 kV4 dc4 pm4 cd4 ct4 : Value} {od5 an5 : Option Addr} {sl5 : Array (Option Value)} {oc5 kV5 dc5 pm5 cd5 ct5 : Value} {od6 an6 : Option Addr} {sl6 : Array (Option Value)} {oc6 kV6 dc6 pm6 cd6 ct6 : Value} {od7 an7 : Option Addr} {sl7 : Array (Option Value)} {oc7 kV7 dc7 pm7 cd7 ct7 : Value} {od8 an8 : Option Addr} {sl8 : Array (Option Value)} {oc8 kV8 dc8 pm8 cd8 ct8 : Value} {od9 an9 : Option Addr} {sl9 : Array (Option Value)} {oc9 kV9 dc9 pm9 cd9 ct9 : Value} {od10 an10 : Option Addr} {sl10 : Array (Option Value)} {oc10 kV10 dc10 pm10 cd10 ct10 : Value} {od11 an11 : Option Addr} {sl11 : Array (Option Value)} {oc11 kV11 dc11 pm11 cd11 ct11 : Value} {od12 an12 : Option Addr} {sl12 : Array (Option Value)} {oc12 kV12 dc12 pm12 cd12 ct12 : Value} {od13 an13 : Option Addr} {sl13 : Array (Option Value)} {oc13 kV13 dc13 pm13 cd13 ct13 : Value} {od14 an14 : Option Addr} {sl14 : Array (Option Value)} {oc14 kV14 dc14 pm14 cd14 ct14 : Value} {od15 an15 : Option Addr} {sl15 : Array (Option Value)} {oc15 kV15 dc15 pm15 cd15 ct15 : Value} {od16 an16 : Option Addr} {sl16 : Array (Option Value)} {oc16 kV16 dc16 pm16 cd16 ct16 : Value} {od17 an17 : Option Addr} {sl17 : Array (Option Value)} {oc17 kV17 dc17 pm17 cd17 ct17 : Value} {od18 an18 : Option Addr} {sl18 : Array (Option Value)} {oc18 kV18 dc18 pm18 cd18 ct18 : Value} {od19 an19 : Option Addr} {sl19 : Array (Option Value)} {oc19 kV19 dc19 pm19 cd19 ct19 : Value} {od20 an20 : Option Addr} {sl20 : Array (Option Value)} {oc20 kV20 dc20 pm20 cd20 ct20 : Value} {od21 an21 : Option Addr} {sl21 : Array (Option Value)} {oc21 kV21 dc21 pm21 cd21 ct21 : Value} {od22 an22 : Option Addr} {sl22 : Array (Option Value)} {oc22 kV22 dc22 pm22 cd22 ct22 : Value}
    (a0 : PySem.W.nsIn K mainGlobals "owner_of" = some (some (.ref f0))) (l0 : K.lookup f0 = some ⟨oc0, od0, .func (PySem.W.fnOf "owner_of" "owner_of" (defArgs sowner_of) (defBody sowner_of) (defScope sowner_of) .none kV0 dc0 pm0 an0 cd0 ct0), sl0⟩) (c0 : PySem.W.codeIn K cd0 "owner_of" = true) (k0 : PySem.W.keepIn K (.ref f0) = true)
    (a1 : PySem.W.nsIn K mainGlobals "letters_of" = some (some (.ref f1))) (l1 : K.lookup f1 = some ⟨oc1, od1, .func (PySem.W.fnOf "letters_of" "letters_of" (defArgs sletters_of) (defBody sletters_of) (defScope sletters_of) .none kV1 dc1 pm1 an1 cd1 ct1), sl1⟩) (c1 : PySem.W.codeIn K cd1 "letters_of" = true) (k1 : PySem.W.keepIn K (.ref f1) = true)
    (a2 : PySem.W.nsIn K mainGlobals "head_of" = some (some (.ref f2))) (l2 : K.lookup f2 = some ⟨oc2, od2, .func (PySem.W.fnOf "head_of" "head_of" (defArgs shead_of) (defBody shead_of) (defScope shead_of) .none kV2 dc2 pm2 an2 cd2 ct2), sl2⟩) (c2 : PySem.W.codeIn K cd2 "head_of" = true) (k2 : PySem.W.keepIn K (.ref f2) = true)
    (a3 : PySem.W.nsIn K mainGlobals "is_horn" = some (some (.ref f3))) (l3 : K.lookup f3 = some ⟨oc3, od3, .func (PySem.W.fnOf "is_horn" "is_horn" (defArgs sis_horn) (defBody sis_horn) (defScope sis_horn) .none kV3 dc3 pm3 an3 cd3 ct3), sl3⟩) (c3 : PySem.W.codeIn K cd3 "is_horn" = true) (k3 : PySem.W.keepIn K (.ref f3) = true)
    (a4 : PySem.W.nsIn K mainGlobals "check_horn" = some (some (.ref f4))) (l4 : K.lookup f4 = some ⟨oc4, od4, .func (PySem.W.fnOf "check_horn" "check_horn" (defArgs scheck_horn) (defBody scheck_horn) (defScope scheck_horn) .none kV4 dc4 pm4 an4 cd4 ct4), sl4⟩) (c4 : PySem.W.codeIn K cd4 "check_horn" = true) (k4 : PySem.W.keepIn K (.ref f4) = true)
    (a5 : PySem.W.nsIn K mainGlobals "needed_letters" = some (some (.ref f5))) (l5 : K.lookup f5 = some ⟨oc5, od5, .func (PySem.W.fnOf "needed_letters" "needed_letters" (defArgs sneeded_letters) (defBody sneeded_letters) (defScope sneeded_letters) .none kV5 dc5 pm5 an5 cd5 ct5), sl5⟩) (c5 : PySem.W.codeIn K cd5 "needed_letters" = true) (k5 : PySem.W.keepIn K (.ref f5) = true)
    (a6 : PySem.W.nsIn K mainGlobals "further_rules" = some (some (.ref f6))) (l6 : K.lookup f6 = some ⟨oc6, od6, .func (PySem.W.fnOf "further_rules" "further_rules" (defArgs sfurther_rules) (defBody sfurther_rules) (defScope sfurther_rules) .none kV6 dc6 pm6 an6 cd6 ct6), sl6⟩) (c6 : PySem.W.codeIn K cd6 "further_rules" = true) (k6 : PySem.W.keepIn K (.ref f6) = true)
    (a7 : PySem.W.nsIn K mainGlobals "with_further" = some (some (.ref f7))) (l7 : K.lookup f7 = some ⟨oc7, od7, .func (PySem.W.fnOf "with_further" "with_further" (defArgs swith_further) (defBody swith_further) (defScope swith_further) .none kV7 dc7 pm7 an7 cd7 ct7), sl7⟩) (c7 : PySem.W.codeIn K cd7 "with_further" = true) (k7 : PySem.W.keepIn K (.ref f7) = true)
    (a8 : PySem.W.nsIn K mainGlobals "makers_at" = some (some (.ref f8))) (l8 : K.lookup f8 = some ⟨oc8, od8, .func (PySem.W.fnOf "makers_at" "makers_at" (defArgs smakers_at) (defBody smakers_at) (defScope smakers_at) .none kV8 dc8 pm8 an8 cd8 ct8), sl8⟩) (c8 : PySem.W.codeIn K cd8 "makers_at" = true) (k8 : PySem.W.keepIn K (.ref f8) = true)
    (a9 : PySem.W.nsIn K mainGlobals "yes_letters" = some (some (.ref f9))) (l9 : K.lookup f9 = some ⟨oc9, od9, .func (PySem.W.fnOf "yes_letters" "yes_letters" (defArgs syes_letters) (defBody syes_letters) (defScope syes_letters) .none kV9 dc9 pm9 an9 cd9 ct9), sl9⟩) (c9 : PySem.W.codeIn K cd9 "yes_letters" = true) (k9 : PySem.W.keepIn K (.ref f9) = true)
    (a10 : PySem.W.nsIn K mainGlobals "_law_bag" = some (some (.ref f10))) (l10 : K.lookup f10 = some ⟨oc10, od10, .func (PySem.W.fnOf "_law_bag" "_law_bag" (defArgs s_law_bag) (defBody s_law_bag) (defScope s_law_bag) .none kV10 dc10 pm10 an10 cd10 ct10), sl10⟩) (c10 : PySem.W.codeIn K cd10 "_law_bag" = true) (k10 : PySem.W.keepIn K (.ref f10) = true)
    (a11 : PySem.W.nsIn K mainGlobals "_law_draw" = some (some (.ref f11))) (l11 : K.lookup f11 = some ⟨oc11, od11, .func (PySem.W.fnOf "_law_draw" "_law_draw" (defArgs s_law_draw) (defBody s_law_draw) (defScope s_law_draw) .none kV11 dc11 pm11 an11 cd11 ct11), sl11⟩) (c11 : PySem.W.codeIn K cd11 "_law_draw" = true) (k11 : PySem.W.keepIn K (.ref f11) = true)
    (a12 : PySem.W.nsIn K mainGlobals "_law_pick" = some (some (.ref f12))) (l12 : K.lookup f12 = some ⟨oc12, od12, .func (PySem.W.fnOf "_law_pick" "_law_pick" (defArgs s_law_pick) (defBody s_law_pick) (defScope s_law_pick) .none kV12 dc12 pm12 an12 cd12 ct12), sl12⟩) (c12 : PySem.W.codeIn K cd12 "_law_pick" = true) (k12 : PySem.W.keepIn K (.ref f12) = true)
    (a13 : PySem.W.nsIn K mainGlobals "_law_mixed" = some (some (.ref f13))) (l13 : K.lookup f13 = some ⟨oc13, od13, .func (PySem.W.fnOf "_law_mixed" "_law_mixed" (defArgs s_law_mixed) (defBody s_law_mixed) (defScope s_law_mixed) .none kV13 dc13 pm13 an13 cd13 ct13), sl13⟩) (c13 : PySem.W.codeIn K cd13 "_law_mixed" = true) (k13 : PySem.W.keepIn K (.ref f13) = true)
    (a14 : PySem.W.nsIn K mainGlobals "_law_owners" = some (some (.ref f14))) (l14 : K.lookup f14 = some ⟨oc14, od14, .func (PySem.W.fnOf "_law_owners" "_law_owners" (defArgs s_law_owners) (defBody s_law_owners) (defScope s_law_owners) .none kV14 dc14 pm14 an14 cd14 ct14), sl14⟩) (c14 : PySem.W.codeIn K cd14 "_law_owners" = true) (k14 : PySem.W.keepIn K (.ref f14) = true)
    (a15 : PySem.W.nsIn K mainGlobals "_law_unlike" = some (some (.ref f15))) (l15 : K.lookup f15 = some ⟨oc15, od15, .func (PySem.W.fnOf "_law_unlike" "_law_unlike" (defArgs s_law_unlike) (defBody s_law_unlike) (defScope s_law_unlike) .none kV15 dc15 pm15 an15 cd15 ct15), sl15⟩) (c15 : PySem.W.codeIn K cd15 "_law_unlike" = true) (k15 : PySem.W.keepIn K (.ref f15) = true)
    (a16 : PySem.W.nsIn K mainGlobals "_law_horns" = some (some (.ref f16))) (l16 : K.lookup f16 = some ⟨oc16, od16, .func (PySem.W.fnOf "_law_horns" "_law_horns" (defArgs s_law_horns) (defBody s_law_horns) (defScope s_law_horns) .none kV16 dc16 pm16 an16 cd16 ct16), sl16⟩) (c16 : PySem.W.codeIn K cd16 "_law_horns" = true) (k16 : PySem.W.keepIn K (.ref f16) = true)
    (a17 : PySem.W.nsIn K mainGlobals "_law_yes" = some (some (.ref f17))) (l17 : K.lookup f17 = some ⟨oc17, od17, .func (PySem.W.fnOf "_law_yes" "_law_yes" (defArgs s_law_yes) (defBody s_law_yes) (defScope s_law_yes) .none kV17 dc17 pm17 an17 cd17 ct17), sl17⟩) (c17 : PySem.W.codeIn K cd17 "_law_yes" = true) (k17 : PySem.W.keepIn K (.ref f17) = true)
    (a18 : PySem.W.nsIn K mainGlobals "_law_heard" = some (some (.ref f18))) (l18 : K.lookup f18 = some ⟨oc18, od18, .func (PySem.W.fnOf "_law_heard" "_law_heard" (defArgs s_law_heard) (defBody s_law_heard) (defScope s_law_heard) .none kV18 dc18 pm18 an18 cd18 ct18), sl18⟩) (c18 : PySem.W.codeIn K cd18 "_law_heard" = true) (k18 : PySem.W.keepIn K (.ref f18) = true)
    (a19 : PySem.W.nsIn K mainGlobals "_law_steps" = some (some (.ref f19))) (l19 : K.lookup f19 = some ⟨oc19, od19, .func (PySem.W.fnOf "_law_steps" "_law_steps" (defArgs s_law_steps) (defBody s_law_steps) (defScope s_law_steps) .none kV19 dc19 pm19 an19 cd19 ct19), sl19⟩) (c19 : PySem.W.codeIn K cd19 "_law_steps" = true) (k19 : PySem.W.keepIn K (.ref f19) = true)
    (a20 : PySem.W.nsIn K mainGlobals "_law_is_right" = some (some (.ref f20))) (l20 : K.lookup f20 = some ⟨oc20, od20, .func (PySem.W.fnOf "_law_is_right" "_law_is_right" (defArgs s_law_is_right) (defBody s_law_is_right) (defScope s_law_is_right) .none kV20 dc20 pm20 an20 cd20 ct20), sl20⟩) (c20 : PySem.W.codeIn K cd20 "_law_is_right" = true) (k20 : PySem.W.keepIn K (.ref f20) = true)
    (a21 : PySem.W.nsIn K mainGlobals "_law_unhorn" = some (some (.ref f21))) (l21 : K.lookup f21 = some ⟨oc21, od21, .func (PySem.W.fnOf "_law_unhorn" "_law_unhorn" (defArgs s_law_unhorn) (defBody s_law_unhorn) (defScope s_law_unhorn) .none kV21 dc21 pm21 an21 cd21 ct21), sl21⟩) (c21 : PySem.W.codeIn K cd21 "_law_unhorn" = true) (k21 : PySem.W.keepIn K (.ref f21) = true)
    (a22 : PySem.W.nsIn K mainGlobals "law" = some (some (.ref f22))) (l22 : K.lookup f22 = some ⟨oc22, od22, .func (PySem.W.fnOf "law" "law" (defArgs slaw) (defBody slaw) (defScope slaw) .none kV22 dc22 pm22 an22 cd22 ct22), sl22⟩) (c22 : PySem.W.codeIn K cd22 "law" = true) (k22 : PySem.W.keepIn K (.ref f22) = true)
    (z0 : PySem.W.nsIn K mainGlobals "len" = some none) (z1 : PySem.W.nsIn K mainGlobals "abs" = some none) (z2 : PySem.W.nsIn K mainGlobals "min" = some none) (z3 : PySem.W.nsIn K mainGlobals "max" = some none) (z4 : PySem.W.nsIn K mainGlobals "sorted" = some none) (z5 : PySem.W.nsIn K mainGlobals "tuple" = some none) (z6 : PySem.W.nsIn K mainGlobals "list" = some none) (z7 : PySem.W.nsIn K mainGlobals "set" = some none) (z8 : PySem.W.nsIn K mainGlobals "int" = some none) (z9 : PySem.W.nsIn K mainGlobals "range" = some none) (z10 : PySem.W.nsIn K mainGlobals "repr" = some none) (z11 : PySem.W.nsIn K mainGlobals "isinstance" = some none) (z12 : PySem.W.nsIn K mainGlobals "enumerate" = some none) (z13 : PySem.W.nsIn K mainGlobals "zip" = some none) (z14 : PySem.W.nsIn K mainGlobals "sum" = some none) (z15 : PySem.W.nsIn K mainGlobals "all" = some none) (z16 : PySem.W.nsIn K mainGlobals "any" = some none) (z17 : PySem.W.nsIn K mainGlobals "dict" = some none)
    (aU : PySem.W.nsIn K mainGlobals "Unfit" = some (some (.ref C))) (aG : PySem.W.nsIn K mainGlobals "GameError" = some (some (.ref CG)))
    (xe : PySem.W.excIn K C [.type "ValueError", .type "Exception", .type "BaseException", .type "object"] "ValueError.__new__" = true) (xk : PySem.W.keepIn K (.ref C) = true)
    (xb : PySem.W.subIn K (.ref C) (.type "BaseException") = some true) (xt : PySem.W.typeIn K (.ref C) = some (.type "type"))
    (u1 : PySem.W.findIn K (.ref C) "__getattribute__" = some (some (.builtin "BaseException.__getattribute__"))) (u2 : PySem.W.findIn K (.ref C) "__getattr__" = some none)
    (u4 : PySem.W.hasDictIn K C = true) (u5 : PySem.W.findIn K (.ref C) "__class__" = some (some (.builtin "object.__class__")))
    (u6 : PySem.W.specialIn K (.builtin "object.__class__") "__get__" = some (some (.builtin "getset_descriptor.__get__"))) (u7 : PySem.W.takesIn K (.builtin "object.__class__") = some true)
    (u8 : PySem.W.mroIn K C (.type "object") = some true) (iC : PySem.W.isClsIn K C = true) (sC : PySem.W.subIn K (.ref C) (.ref C) = some true) (iG : PySem.W.isClsIn K CG = true) (tG : PySem.W.typeIn K (.ref CG) = some (.type "type")) (sG : PySem.W.subIn K (.ref C) (.ref CG) = some true)
    (zV : PySem.W.nsIn K mainGlobals "ValueError" = some none) (sV : PySem.W.subIn K (.ref C) (.type "ValueError") = some true)
    : ∃ fd : FuncData, (∀ (s : Shared) (v : Value), BindsTo s fd ⟨[v], []⟩ [("script", v)]) ∧ ∀ base : Heap, K.In base → base.Ns mainGlobals mg → FnG l.prog w K mg base 9 fa fd ["script"] (spLaw K) := by
  have e := hfa.symm.trans (PySem.W.mg_of X G a22)
  cases e
  have F0 := fun_mk (st := sowner_of) l0 c0 k0
  have b0 := F0.binds (ps := ["sentence", "letter"]) fun _ _ _ _ _ _ us hl => match us, hl with | [_, _], _ => rfl
  have Cowner_of : Callee K mg "owner_of" f0 _ ["sentence", "letter"] := ⟨PySem.W.mg_of X G a0, k0, b0⟩
  have F1 := fun_mk (st := sletters_of) l1 c1 k1
  have b1 := F1.binds (ps := ["sentence", "owner"]) fun _ _ _ _ _ _ us hl => match us, hl with | [_, _], _ => rfl
  have Cletters_of : Callee K mg "letters_of" f1 _ ["sentence", "owner"] := ⟨PySem.W.mg_of X G a1, k1, b1⟩
  have F2 := fun_mk (st := shead_of) l2 c2 k2
  have b2 := F2.binds (ps := ["clause"]) fun _ _ _ _ _ _ us hl => match us, hl with | [_], _ => rfl
  have Chead_of : Callee K mg "head_of" f2 _ ["clause"] := ⟨PySem.W.mg_of X G a2, k2, b2⟩
  have F3 := fun_mk (st := sis_horn) l3 c3 k3
  have b3 := F3.binds (ps := ["sentence"]) fun _ _ _ _ _ _ us hl => match us, hl with | [_], _ => rfl
  have Cis_horn : Callee K mg "is_horn" f3 _ ["sentence"] := ⟨PySem.W.mg_of X G a3, k3, b3⟩
  have F4 := fun_mk (st := scheck_horn) l4 c4 k4
  have b4 := F4.binds (ps := ["sentence"]) fun _ _ _ _ _ _ us hl => match us, hl with | [_], _ => rfl
  have Ccheck_horn : Callee K mg "check_horn" f4 _ ["sentence"] := ⟨PySem.W.mg_of X G a4, k4, b4⟩
  have F5 := fun_mk (st := sneeded_letters) l5 c5 k5
  have b5 := F5.binds (ps := ["sentence", "clause"]) fun _ _ _ _ _ _ us hl => match us, hl with | [_, _], _ => rfl
  have Cneeded_letters : Callee K mg "needed_letters" f5 _ ["sentence", "clause"] := ⟨PySem.W.mg_of X G a5, k5, b5⟩
  have F6 := fun_mk (st := sfurther_rules) l6 c6 k6
  have b6 := F6.binds (ps := ["sentence", "letter"]) fun _ _ _ _ _ _ us hl => match us, hl with | [_, _], _ => rfl
  have Cfurther_rules : Callee K mg "further_rules" f6 _ ["sentence", "letter"] := ⟨PySem.W.mg_of X G a6, k6, b6⟩
  have F7 := fun_mk (st := swith_further) l7 c7 k7
  have b7 := F7.binds (ps := ["sentence", "letter", "makers"]) fun _ _ _ _ _ _ us hl => match us, hl with | [_, _, _], _ => rfl
  have Cwith_further : Callee K mg "with_further" f7 _ ["sentence", "letter", "makers"] := ⟨PySem.W.mg_of X G a7, k7, b7⟩
  have F8 := fun_mk (st := smakers_at) l8 c8 k8
  have b8 := F8.binds (ps := ["sentence", "letter", "at_first"]) fun _ _ _ _ _ _ us hl => match us, hl with | [_, _, _], _ => rfl
  have Cmakers_at : Callee K mg "makers_at" f8 _ ["sentence", "letter", "at_first"] := ⟨PySem.W.mg_of X G a8, k8, b8⟩
  have F9 := fun_mk (st := syes_letters) l9 c9 k9
  have b9 := F9.binds (ps := ["sentence", "letter"]) fun _ _ _ _ _ _ us hl => match us, hl with | [_, _], _ => rfl
  have Cyes_letters : Callee K mg "yes_letters" f9 _ ["sentence", "letter"] := ⟨PySem.W.mg_of X G a9, k9, b9⟩
  have F10 := fun_mk (st := s_law_bag) l10 c10 k10
  have b10 := F10.binds (ps := ["script"]) fun _ _ _ _ _ _ us hl => match us, hl with | [_], _ => rfl
  have C_law_bag : Callee K mg "_law_bag" f10 _ ["script"] := ⟨PySem.W.mg_of X G a10, k10, b10⟩
  have F11 := fun_mk (st := s_law_draw) l11 c11 k11
  have b11 := F11.binds (ps := ["bag", "many"]) fun _ _ _ _ _ _ us hl => match us, hl with | [_, _], _ => rfl
  have C_law_draw : Callee K mg "_law_draw" f11 _ ["bag", "many"] := ⟨PySem.W.mg_of X G a11, k11, b11⟩
  have F12 := fun_mk (st := s_law_pick) l12 c12 k12
  have b12 := F12.binds (ps := ["bag", "row"]) fun _ _ _ _ _ _ us hl => match us, hl with | [_, _], _ => rfl
  have C_law_pick : Callee K mg "_law_pick" f12 _ ["bag", "row"] := ⟨PySem.W.mg_of X G a12, k12, b12⟩
  have F13 := fun_mk (st := s_law_mixed) l13 c13 k13
  have b13 := F13.binds (ps := ["bag", "row"]) fun _ _ _ _ _ _ us hl => match us, hl with | [_, _], _ => rfl
  have C_law_mixed : Callee K mg "_law_mixed" f13 _ ["bag", "row"] := ⟨PySem.W.mg_of X G a13, k13, b13⟩
  have F14 := fun_mk (st := s_law_owners) l14 c14 k14
  have b14 := F14.binds (ps := ["bag", "n"]) fun _ _ _ _ _ _ us hl => match us, hl with | [_, _], _ => rfl
  have C_law_owners : Callee K mg "_law_owners" f14 _ ["bag", "n"] := ⟨PySem.W.mg_of X G a14, k14, b14⟩
  have F15 := fun_mk (st := s_law_unlike) l15 c15 k15
  have b15 := F15.binds (ps := ["rows"]) fun _ _ _ _ _ _ us hl => match us, hl with | [_], _ => rfl
  have C_law_unlike : Callee K mg "_law_unlike" f15 _ ["rows"] := ⟨PySem.W.mg_of X G a15, k15, b15⟩
  have F16 := fun_mk (st := s_law_horns) l16 c16 k16
  have b16 := F16.binds (ps := ["bag", "owners", "many"]) fun _ _ _ _ _ _ us hl => match us, hl with | [_, _, _], _ => rfl
  have C_law_horns : Callee K mg "_law_horns" f16 _ ["bag", "owners", "many"] := ⟨PySem.W.mg_of X G a16, k16, b16⟩
  have F17 := fun_mk (st := s_law_yes) l17 c17 k17
  have b17 := F17.binds (ps := ["owners", "clauses", "u"]) fun _ _ _ _ _ _ us hl => match us, hl with | [_, _, _], _ => rfl
  have C_law_yes : Callee K mg "_law_yes" f17 _ ["owners", "clauses", "u"] := ⟨PySem.W.mg_of X G a17, k17, b17⟩
  have F18 := fun_mk (st := s_law_heard) l18 c18 k18
  have b18 := F18.binds (ps := ["sentence", "u", "is_named"]) fun _ _ _ _ _ _ us hl => match us, hl with | [_, _, _], _ => rfl
  have C_law_heard : Callee K mg "_law_heard" f18 _ ["sentence", "u", "is_named"] := ⟨PySem.W.mg_of X G a18, k18, b18⟩
  have F19 := fun_mk (st := s_law_steps) l19 c19 k19
  have b19 := F19.binds (ps := ["bag", "n"]) fun _ _ _ _ _ _ us hl => match us, hl with | [_, _], _ => rfl
  have C_law_steps : Callee K mg "_law_steps" f19 _ ["bag", "n"] := ⟨PySem.W.mg_of X G a19, k19, b19⟩
  have F20 := fun_mk (st := s_law_is_right) l20 c20 k20
  have b20 := F20.binds (ps := ["bag", "owners", "clauses", "many"]) fun _ _ _ _ _ _ us hl => match us, hl with | [_, _, _, _], _ => rfl
  have C_law_is_right : Callee K mg "_law_is_right" f20 _ ["bag", "owners", "clauses", "many"] := ⟨PySem.W.mg_of X G a20, k20, b20⟩
  have F21 := fun_mk (st := s_law_unhorn) l21 c21 k21
  have b21 := F21.binds (ps := ["bag", "n"]) fun _ _ _ _ _ _ us hl => match us, hl with | [_, _], _ => rfl
  have C_law_unhorn : Callee K mg "_law_unhorn" f21 _ ["bag", "n"] := ⟨PySem.W.mg_of X G a21, k21, b21⟩
  have F22 := fun_mk (st := slaw) l22 c22 k22
  have T : Bl mg := ⟨PySem.W.mg_none_of X G z0, PySem.W.mg_none_of X G z1, PySem.W.mg_none_of X G z2, PySem.W.mg_none_of X G z3, PySem.W.mg_none_of X G z4, PySem.W.mg_none_of X G z5, PySem.W.mg_none_of X G z6, PySem.W.mg_none_of X G z7, PySem.W.mg_none_of X G z8, PySem.W.mg_none_of X G z9, PySem.W.mg_none_of X G z10, PySem.W.mg_none_of X G z11, PySem.W.mg_none_of X G z12, PySem.W.mg_none_of X G z13, PySem.W.mg_none_of X G z14, PySem.W.mg_none_of X G z15, PySem.W.mg_none_of X G z16, PySem.W.mg_none_of X G z17⟩
  have U : ExcF K mg "Unfit" C := ⟨PySem.W.mg_of X G aU, xe, xk, xb, xt⟩
  have UC : ExcC K C := ⟨u1, u2, xb, u4, u5, u6, u7, u8⟩
  have Kyes_letters : KwRev (PySem.W.fnOf "yes_letters" "yes_letters" (defArgs syes_letters) (defBody syes_letters) (defScope syes_letters) .none kV9 dc9 pm9 an9 cd9 ct9) ["sentence", "letter"] := fun s ws hw => match ws, hw with | [_, _], _ => .of_eq rfl
  refine ⟨PySem.W.fnOf "law" "law" (defArgs slaw) (defBody slaw) (defScope slaw) .none kV22 dc22 pm22 an22 cd22 ct22, fun s v => .of_eq rfl, fun base _ _ => ?_⟩
  have Gowner_of := ok_owner (P := l.prog) (w := w) (base := base) F0 T  
  have Gletters_of := ok_letters (P := l.prog) (w := w) (base := base) F1 T  
  have Ghead_of := ok_head (P := l.prog) (w := w) (base := base) F2 T  
  have Gis_horn := ok_ishorn (P := l.prog) (w := w) (base := base) F3 T  
  have Gcheck_horn := ok_check (P := l.prog) (w := w) (base := base) F4 T U Gis_horn Cis_horn
  have Gneeded_letters := ok_needed (P := l.prog) (w := w) (base := base) F5 T  Gowner_of Cowner_of
  have Gfurther_rules := ok_rules (P := l.prog) (w := w) (base := base) F6 T  Ghead_of Chead_of Gowner_of Cowner_of Gneeded_letters Cneeded_letters
  have Gwith_further := ok_further (P := l.prog) (w := w) (base := base) F7 T  Gfurther_rules Cfurther_rules
  have Gmakers_at := ok_makers (P := l.prog) (w := w) (base := base) F8 T  Gwith_further Cwith_further
  have Gyes_letters := ok_yesl (P := l.prog) (w := w) (base := base) F9 T U Gcheck_horn Ccheck_horn Gletters_of Cletters_of Gmakers_at Cmakers_at Gwith_further Cwith_further
  have G_law_bag := ok_deck (P := l.prog) (w := w) (base := base) F10 T  
  have G_law_draw := ok_draw (P := l.prog) (w := w) (base := base) F11 T  
  have G_law_pick := ok_pick (P := l.prog) (w := w) (base := base) F12 T  G_law_draw C_law_draw
  have G_law_mixed := ok_mixed (P := l.prog) (w := w) (base := base) F13 T  G_law_draw C_law_draw
  have GR_law_mixed := ok_mixedR (P := l.prog) (w := w) (base := base) F13 T  G_law_draw C_law_draw
  have G_law_owners := ok_owners (P := l.prog) (w := w) (base := base) F14 T  G_law_draw C_law_draw G_law_pick C_law_pick
  have G_law_unlike := ok_unlike (P := l.prog) (w := w) (base := base) F15 T  
  have G_law_horns := ok_horns (P := l.prog) (w := w) (base := base) F16 T  G_law_draw C_law_draw G_law_pick C_law_pick G_law_mixed C_law_mixed G_law_unlike C_law_unlike
  have G_law_yes := ok_yes (P := l.prog) (w := w) (base := base) F17 T  C_law_yes
  have G_law_heard := ok_heard (P := l.prog) (w := w) (base := base) F18 T U UC (PySem.W.mg_of X G aG) (kit_up iG tG sG) (exm_same xb iC xt sC) Gyes_letters Cyes_letters Kyes_letters
  have G_law_steps := ok_steps (P := l.prog) (w := w) (base := base) F19 T  G_law_draw C_law_draw G_law_mixed C_law_mixed
  have G_law_is_right := ok_right (P := l.prog) (w := w) (base := base) F20 T  G_law_yes C_law_yes G_law_heard C_law_heard G_law_mixed C_law_mixed
  have G_law_unhorn := ok_unhorn (P := l.prog) (w := w) (base := base) F21 T  G_law_draw C_law_draw G_law_pick C_law_pick G_law_mixed C_law_mixed
  exact ok_law F22 T  G_law_bag C_law_bag G_law_draw C_law_draw GR_law_mixed C_law_mixed G_law_unlike C_law_unlike G_law_owners C_law_owners G_law_horns C_law_horns G_law_steps C_law_steps G_law_unhorn C_law_unhorn G_law_heard C_law_heard G_law_is_right C_law_is_right Gyes_letters Cyes_letters
end KA
open PySem PySem.W PyProof.Rows
set_option Elab.async false
set_option linter.all false
set_option maxRecDepth 100000
set_option maxHeartbeats 0 in
theorem PySem.Challenge.cw_eachsome_k52_whole_letters_that_have_to_holds : PySem.Challenge.rw_eachsome_k52_whole_letters_that_have_to.Holds := by
  w_on; o_law; k_head; (case hw => w_witness2)
  k_fill
  refine Ea.walk_G (l := PySem.Challenge.rw_eachsome_k52_whole_letters_that_have_to) (n := 63) (k := 9) (x := "script") (sp := fun w => KA.spLaw _) rfl (by decide) rfl ⟨rfl, by decide, by decide⟩ (fun w h Y => PySem.W.kIn_of Y) ?F (fun _ _ a ns hl _ hS => ⟨a, ns, rfl, hS, hl, fun _ => rfl⟩)
  case F =>
    intro w mg fa h KX G hmg
    refine' KA.all_mk KX G hmg ?a0 ?l0 ?c0 ?k0 ?a1 ?l1 ?c1 ?k1 ?a2 ?l2 ?c2 ?k2 ?a3 ?l3 ?c3 ?k3 ?a4 ?l4 ?c4 ?k4 ?a5 ?l5 ?c5 ?k5 ?a6 ?l6 ?c6 ?k6 ?a7 ?l7 ?c7 ?k7 ?a8 ?l8 ?c8 ?k8 ?a9 ?l9 ?c9 ?k9 ?a10 ?l10 ?c10 ?k10 ?a11 ?l11 ?c11 ?k11 ?a12 ?l12 ?c12 ?k12 ?a13 ?l13 ?c13 ?k13 ?a14 ?l14 ?c14 ?k14 ?a15 ?l15 ?c15 ?k15 ?a16 ?l16 ?c16 ?k16 ?a17 ?l17 ?c17 ?k17 ?a18 ?l18 ?c18 ?k18 ?a19 ?l19 ?c19 ?k19 ?a20 ?l20 ?c20 ?k20 ?a21 ?l21 ?c21 ?k21 ?a22 ?l22 ?c22 ?k22 ?z0 ?z1 ?z2 ?z3 ?z4 ?z5 ?z6 ?z7 ?z8 ?z9 ?z10 ?z11 ?z12 ?z13 ?z14 ?z15 ?z16 ?z17 ?aU ?aG ?xe ?xk ?xb ?xt ?u1 ?u2 ?u4 ?u5 ?u6 ?u7 ?u8 ?iC ?sC ?iG ?tG ?sG ?zV ?sV
    (case a0 => k_is)
    (case l0 => k_is)
    (case c0 => k_is)
    (case k0 => k_is)
    (case a1 => k_is)
    (case l1 => k_is)
    (case c1 => k_is)
    (case k1 => k_is)
    (case a2 => k_is)
    (case l2 => k_is)
    (case c2 => k_is)
    (case k2 => k_is)
    (case a3 => k_is)
    (case l3 => k_is)
    (case c3 => k_is)
    (case k3 => k_is)
    (case a4 => k_is)
    (case l4 => k_is)
    (case c4 => k_is)
    (case k4 => k_is)
    (case a5 => k_is)
    (case l5 => k_is)
    (case c5 => k_is)
    (case k5 => k_is)
    (case a6 => k_is)
    (case l6 => k_is)
    (case c6 => k_is)
    (case k6 => k_is)
    (case a7 => k_is)
    (case l7 => k_is)
    (case c7 => k_is)
    (case k7 => k_is)
    (case a8 => k_is)
    (case l8 => k_is)
    (case c8 => k_is)
    (case k8 => k_is)
    (case a9 => k_is)
    (case l9 => k_is)
    (case c9 => k_is)
    (case k9 => k_is)
    (case a10 => k_is)
    (case l10 => k_is)
    (case c10 => k_is)
    (case k10 => k_is)
    (case a11 => k_is)
    (case l11 => k_is)
    (case c11 => k_is)
    (case k11 => k_is)
    (case a12 => k_is)
    (case l12 => k_is)
    (case c12 => k_is)
    (case k12 => k_is)
    (case a13 => k_is)
    (case l13 => k_is)
    (case c13 => k_is)
    (case k13 => k_is)
    (case a14 => k_is)
    (case l14 => k_is)
    (case c14 => k_is)
    (case k14 => k_is)
    (case a15 => k_is)
    (case l15 => k_is)
    (case c15 => k_is)
    (case k15 => k_is)
    (case a16 => k_is)
    (case l16 => k_is)
    (case c16 => k_is)
    (case k16 => k_is)
    (case a17 => k_is)
    (case l17 => k_is)
    (case c17 => k_is)
    (case k17 => k_is)
    (case a18 => k_is)
    (case l18 => k_is)
    (case c18 => k_is)
    (case k18 => k_is)
    (case a19 => k_is)
    (case l19 => k_is)
    (case c19 => k_is)
    (case k19 => k_is)
    (case a20 => k_is)
    (case l20 => k_is)
    (case c20 => k_is)
    (case k20 => k_is)
    (case a21 => k_is)
    (case l21 => k_is)
    (case c21 => k_is)
    (case k21 => k_is)
    (case a22 => k_is)
    (case l22 => k_is)
    (case c22 => k_is)
    (case k22 => k_is)
    (case z0 => k_is)
    (case z1 => k_is)
    (case z2 => k_is)
    (case z3 => k_is)
    (case z4 => k_is)
    (case z5 => k_is)
    (case z6 => k_is)
    (case z7 => k_is)
    (case z8 => k_is)
    (case z9 => k_is)
    (case z10 => k_is)
    (case z11 => k_is)
    (case z12 => k_is)
    (case z13 => k_is)
    (case z14 => k_is)
    (case z15 => k_is)
    (case z16 => k_is)
    (case z17 => k_is)
    (case aU => k_is)
    (case aG => k_is)
    (case xe => k_exc)
    (case xk => k_is)
    (case xb => k_is)
    (case xt => k_is)
    (case u1 => k_is)
    (case u2 => k_is)
    (case u4 => k_is)
    (case u5 => k_is)
    (case u6 => k_is)
    (case u7 => k_is)
    (case u8 => k_is)
    (case iC => k_is)
    (case sC => k_is)
    (case iG => k_is)
    (case tG => k_is)
    (case sG => k_is)
    (case zV => k_is)
    (case sV => k_is)
