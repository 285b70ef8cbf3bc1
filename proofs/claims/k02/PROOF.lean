import PyProof.Rows.All
import Wide.All
import OpenK.AllK
import Wide.FinOn
import PyProof.Rows.NestShow
import HandS.ForMost
import HandS.Exc
import HandS.ExcOwn
import HandS.WordsExc
import HandS.Defaults
import HandS.More
import HandS.Strs
import HandS.Conv
import HandS.SetFor
import HandS.SortInts
import HandS.DictComp
import HandS.TupAny
import HandS.ExcIs
import HandS.Evl
import KE.GoesEnum
import PySem.Challenge.RW_eachsome_k02_whole_clauses_owners_and_le
import HandS.Deep
import HandS.NoneIn
import HandS.ExcBuiltin
set_option Elab.async false
set_option linter.all false
set_option maxRecDepth 100000
set_option maxHeartbeats 4000000
/-! Own rules: repr of data where nothing is being shown, set of a tuple of ints, a text times a number, an own error made without arguments, calls by names alone; defs whose promise needs that nothing is being shown. -/
namespace Ea
open PySem PySem.Spec PyProof.Rows L2

/-! ### repr -/
def rRepr (K : PySem.W.Frag) : List V → Hp → VK → Prop := fun xs H Q =>
  ∃ (x : V) (d : PyData), xs = [x] ∧ Dp K H x d ∧ d.showable = true ∧ isDisplay d = true ∧ d.hasDict = false ∧ d.depth ≤ 40 ∧ d.shown.length ≤ sizeLine ∧ Q (.str d.shown) H
section
variable {X : Cx}
theorem cr_repr (hg : X.A.guards = some []) (hu : X.A.units + 64 < cLine) : CallR X (.builtin "repr") (rRepr X.K) := by
  intro pins s σ H xs us Q I r h
  obtain ⟨x, d, rfl, hd, h1, h2, h3, h4, h5, q⟩ := h
  obtain ⟨u, rfl, ru⟩ := vals1 r
  obtain ⟨as, rd⟩ := Dp.reads I d x u hd ru
  obtain ⟨a, rfl⟩ := isRef_of_reads rd h2
  exact repr_of_reads' rd h1 (PyData.noDict_hsm h3) hg (by omega) (fun _ _ e => e)
    (fun h' tk u hk => ⟨.str d.shown, H, I.kept hk, ⟨_, rfl⟩, q⟩) h5

/-! ### set of a tuple of ints -/
def rSetI (K : PySem.W.Frag) (w : World) : List V → Hp → VK → Prop := fun xs H Q =>
  ∃ (p : Addr) (ns : List Int), xs = [.ref p] ∧ SqT K H p (ns.map V.int) ∧ ns.length ≤ 1000 ∧
    ∀ (a : Addr) (c : Nat), H a = none → c ≤ ns.length → Q (.ref a) (upd H a (SetO w a (fun j => decide (j ∈ ns)) c))
theorem cr_setI (hc : X.calm = true) : CallR X (.type "set") (rSetI X.K X.w) := by
  intro pins s σ H xs us Q I r h
  obtain ⟨p, ns, rfl, hp, hl, q⟩ := h
  rw [Vals.ref1 r]
  obtain ⟨its, rv, pt, hz⟩ := I.tuple hp
  have hi : IntsAre its.toArray.toList ns := by simpa using rv.ints
  have hf : H s.heap.objs.size = none := I.hok.fresh (Nat.le_refl _)
  refine call_set_tupI ns (I.ok.hd hc) pt hi (by unfold scanBound; omega) fun h' tk c R1 hcn k => ?_
  exact ⟨.ref _, upd H s.heap.objs.size (SetO X.w s.heap.objs.size (fun j => decide (j ∈ ns)) c),
    I.laid (t' := tk) k (Nat.le_refl _) (setO_new R1), rfl, q _ c hf hcn⟩

/-! ### a text times a number -/
theorem folded_size (z : Array Nat) : ∀ (n : Nat) (acc : Array Nat), ((List.replicate n z).foldl (· ++ ·) acc).size = acc.size + n * z.size
  | 0, acc => by simp
  | n + 1, acc => by
    rw [List.replicate_succ, List.foldl_cons, folded_size z n, Array.size_append, Nat.succ_mul]
    omega
def repS (z : Str) (n : Int) : Str := ⟨(List.replicate n.toNat z.cps).foldl (· ++ ·) #[]⟩
def rMulS : R2 := fun x y H Q => ∃ z n, x = .str z ∧ y = .int n ∧ 0 ≤ n ∧ n ≤ 1000 ∧ z.length ≤ 1000 ∧ 1 ≤ z.length ∧ Q (.str (repS z n)) H
theorem repS_length (z : Str) (n : Int) : (repS z n).length = n.toNat * z.length := by
  have h := folded_size z.cps n.toNat #[]
  rw [Array.size_empty, Nat.zero_add] at h
  exact h
theorem repS_fits {z : Str} {n : Int} (h1 : n ≤ 1000) (h2 : z.length ≤ 1000) : (repS z n).length ≤ sizeLine := by
  rw [repS_length, sizeLine_eq]
  have : n.toNat * z.length ≤ 1000 * 1000 := Nat.mul_le_mul (by omega) h2
  omega
theorem op_mulS : OpR X (binaryOp .Mult) rMulS := by
  intro pins s σ H x y v u Q I rx ry h
  obtain ⟨z, n, rfl, rfl, h0, h1, h2, h3, q⟩ := h
  obtain ⟨t, rfl⟩ := rx
  obtain ⟨t', rfl⟩ := ry
  have hlen : z.length * n.toNat ≤ 1000 * 1000 := Nat.mul_le_mul h2 (by omega)
  have hr : (decide (n < -(2 ^ 63 : Int)) || decide (n ≥ 2 ^ 63)) = false := by
    rw [decide_eq_false (by omega), decide_eq_false (by omega)]; rfl
  refine PySem.P.mul_str hr ?_ ?_ ?_
  · intro hn _ hgt
    have e : (1000 : Int) ≤ (2 ^ 63 - 1) / n := by
      rw [Int.le_ediv_iff_mul_le (by omega)]
      omega
    omega
  · intro _ _
    unfold Builtin.Str.tooLong
    rw [decide_eq_false_iff_not, sizeLine_eq]
    omega
  · by_cases c1 : n < 1
    · rw [if_pos c1]
      have e0 : n = 0 := by omega
      subst e0
      refine ⟨by decide, .str (repS z 0), H, I.tok _, ⟨_, rfl⟩, q⟩
    · rw [if_neg c1]
      by_cases c2 : (n == 1 || z.length == 0) = true
      · rw [if_pos c2]
        have e1 : n = 1 := by
          rcases Bool.or_eq_true _ _ |>.mp c2 with h | h
          · exact eq_of_beq h
          · have := eq_of_beq h
            omega
        subst e1
        have e2 : repS z 1 = z := by
          unfold repS
          show (⟨#[] ++ z.cps⟩ : Str) = z
          rw [Array.empty_append]
        rw [e2] at q
        exact ⟨.str z, H, I, ⟨_, rfl⟩, q⟩
      · rw [if_neg c2]
        exact ⟨repS_fits h1 h2, .str (repS z n), H, I.tok _, ⟨_, rfl⟩, q⟩

/-! ### X(): an own error without arguments -/
theorem pmk_own0 {C : Addr} {bmB : List Value} {B newId initId : String} {x : Str} {p pos : Pos} (F : ExcBaseFacts B newId initId bmB)
    (q : PySem.W.excIn X.K C bmB newId = true) (gC : X.mg x = some (.ref C)) (kC : PySem.W.keepIn X.K (.ref C) = true)
    (r : Raises X (.ref C)) (hg : Gl X x) (hdb : (x == ("__debug__" : Str)) = false := by decide) :
    PMk X (.Call (.Name x p) [] [] pos) (fun _ H Q => Q (.ref C) none H) := by
  intro pins s σ H Q I h
  refine wpAny_Call_Name_kw (ld_glob I hg gC (PySem.W.callWith_K0 I.kIn kC ?_) hdb)
  obtain ⟨bm, N, nm, qn, bs, hdct, sn, sub, ab, col, dd, k0, k1, k2, k3, k5, mN, hC, hN, hni, T⟩ := exc_obj I.kIn q
  exact wpAny_call_exc_subT F T hC hN hni (fun h' e hm => mk_of I hm r h (I.hok.gone hm.new)) (Nat.zero_le _)

/-! ### f(k = v, ..) by names alone; what it lets out is wished at the slots -/
def tKw (m : Nat) (sp : Sp) (gV : List V → List V) (E : L2.St → XK) (tk : TA) : TE := fun σ H Q =>
  tk σ H fun zs H2 => zs.length = m ∧ sp (gV zs) H2 Q (E σ)
theorem pe_kw {CX : CXT} {k : Nat} {f : Addr} {fd : FuncData} {ps ks : List Str} {sp : Sp} {E : L2.St → XK} {x : Str} {p pos : Pos} {kws : List Keyword} {tk : TA}
    {g : List Value → List Value} {gV : List V → List V} (F : FnOk X.prog X.w X.K X.mg X.base CX k f fd ps sp) (hr : Room k X.A) (hg : Gl X x)
    (hm : X.mg x = some (.ref f)) (hk : PySem.W.keepIn X.K (.ref f) = true)
    (hto : ∀ (s : Shared) (ws : List Value), ws.length = ks.length → BindsTo s fd ⟨[], ks.zip ws⟩ (ps.zip (g ws)))
    (hrel : ∀ {zs : List V} {ws : List Value}, zs.length = ks.length → Vals zs ws → Vals (gV zs) (g ws))
    (hx : ∀ σ, PassesAt CX X σ (E σ)) (hkw : PK X kws tk)
    (hall : (backToKw pos (keywordEach kws X.env)).all (·.1.isSome) = true := by rfl)
    (hks : (backToKw pos (keywordEach kws X.env)).filterMap (·.1) = ks := by rfl)
    (hdb : (x == ("__debug__" : Str)) = false := by decide)
    (hpl : ((backTo pos (starEach [] X.env)).any (·.1) || (backToKw pos (keywordEach kws X.env)).any (·.1.isNone)) = false := by rfl) :
    PE X (.Call (.Name x p) [] kws pos) (tKw ks.length sp gV E tk) := by
  refine ⟨fun pins s σ H Q I h => ?_⟩
  refine wpAny_Call_Name_kw (ld_glob I hg hm (PySem.W.callWith_KW0 (h₀ := X.base) I.ok.mod.kin hk hall ?_ hpl) hdb)
  refine thn (hkw.run pos pins s σ H _ I h) fun ws s2 ⟨zs, H2, I2, rz, l2, q2⟩ => ⟨I2.kIn, ?_⟩
  rw [hks]
  have hl : (g ws).length = ps.length := by
    rw [← (hrel l2 rz).length]
    exact F.len _ _ _ _ q2
  refine wpAny_call (codeAny_mono (F.run X.A X.stack s2 H2 ⟨[], ks.zip ws⟩ (g ws) (gV zs) Q (E σ) hr I2.env0
    (hto s2 ws (rz.length.symm.trans l2)) (hrel l2 rz) q2) fun r s' hq => ?_)
  match r, hq with
  | .error e, hq => exact hx σ pins H2 s2 e s' I2 hq
  | .ok (.ret u), hq => exact I2.after hq

/-! ### where nothing is being shown -/
structure FnG (P : Program) (w : World) (K : PySem.W.Frag) (mg : Str → Option Value) (base : Heap) (k : Nat) (f : Addr) (fd : FuncData)
    (ps : List Str) (sp : Sp) : Prop where
  len : ∀ vs H Q E, sp vs H Q E → vs.length = ps.length
  run : ∀ (A : Around) (outer : List Env) (s : Shared) (H : Hp) (args : Args) (us : List Value) (vs : List V) (Q : VK) (E : XK),
    Room k A → A.guards = some [] → Env0 P w K mg base A outer s H → BindsTo s fd args (ps.zip us) → Vals vs us → sp vs H Q E →
    codeAny (model P w) A (.call (.ref f) args) (CR CX0 outer P w H s Q E) s
theorem FnG.mono {P : Program} {w : World} {K : PySem.W.Frag} {mg : Str → Option Value} {base : Heap} {j k : Nat} {f : Addr} {fd : FuncData}
    {ps : List Str} {sp : Sp} (F : FnG P w K mg base j f fd ps sp) (h : j ≤ k) : FnG P w K mg base k f fd ps sp :=
  ⟨F.len, fun A outer s H args us vs Q E hr => F.run A outer s H args us vs Q E (hr.mono h)⟩
theorem pe_callG {k : Nat} {f : Addr} {fd : FuncData} {ps : List Str} {sp : Sp} {x : Str} {p pos : Pos} {e : Expr} {es : List Expr} {t : TA}
    (F : FnG X.prog X.w X.K X.mg X.base k f fd ps sp) (hr : Room k X.A) (h0 : X.A.guards = some []) (hg : Gl X x)
    (hm : X.mg x = some (.ref f)) (hk : PySem.W.keepIn X.K (.ref f) = true) (hb : Binds X.K fd ps []) (ha : PA X (e :: es) t)
    (hdb : (x == ("__debug__" : Str)) = false := by decide)
    (he : starEach (e :: es) X.env = (false, eval e X.env) :: starEach es X.env := by rfl)
    (hpl : (backTo pos (starEach es X.env)).any (·.1) = false := by rfl) :
    PE X (.Call (.Name x p) (e :: es) [] pos) (tCall sp [] E0 t) := by
  refine ⟨fun pins s σ H Q I h => ?_⟩
  refine wpAny_Call_Name_kw (ld_glob I hg hm (PySem.W.callWith_K (h₀ := X.base) I.ok.mod.kin hk
    (thn (ha.run pos pins s σ H _ I h) fun us s1 hu => ?_) he hpl) hdb)
  obtain ⟨vs, H1, I1, r, q⟩ := hu
  rw [List.append_nil] at q
  refine ⟨I1.kIn, wpAny_call ?_⟩
  have hl : us.length = ps.length := by
    rw [← r.length]
    exact F.len _ _ _ _ q
  have b := hb s1 us I1.kIn (by rw [List.append_nil]; exact hl)
  rw [List.append_nil] at b
  refine codeAny_mono (F.run X.A X.stack s1 H1 ⟨us, []⟩ us vs Q E0 hr h0 I1.env0 b r q) fun r s' hq => ?_
  match r, hq with
  | .error e, hq => exact False.elim hq
  | .ok (.ret u), hq => exact I1.after hq
end
section
variable {P : Program} {w : World} {K : PySem.W.Frag} {mg : Str → Option Value} {base : Heap}
theorem okG {x qual : Str} {st : Stmt} {f : Addr} {fd : FuncData} {N ps : List Str} {k : Nat} {sp : Sp} (F : Fun K x qual st f fd)
    (S : FnScope N ps (defScope st)) (len : ∀ vs H Q E, sp vs H Q E → vs.length = ps.length)
    (hbody : ∀ (cdv : Value) (A : Around) (outer : List Env) (s : Shared) (H : Hp) (vs : List V) (Q : VK) (E : XK),
      Room k (A.deeper (envOfC qual (defScope st) s.heap.objs.size f cdv)) → A.guards = some [] → sp vs H Q E →
      ∃ t, PSs (cxOf CX0 P w K mg base N qual (defScope st) f cdv A outer s H E).nox (defBody st) t ∧
        t { nx := fun _ H' => Q .non H', rt := Q } (start N vs) H) : FnG P w K mg base (k + 1) f fd ps sp := by
  obtain ⟨oc, od, kV, doc, pm, an, cdv, ct, osl, rfl, lk, hcd⟩ := F.ex
  refine ⟨len, fun A outer s H args us vs Q E hr h0 e0 hb r hsp => ?_⟩
  have KX : K.In s.heap := e0.mod.kin.keeps fun b o e => (e0.bs b o e).1
  have lim : s.heap.NoLimit := e0.mod.nolimit.keeps fun b o e => (e0.bs b o e).1
  refine codeAny_call_function hr.depth (KX _ _ lk) rfl S.co S.gen rfl (PySem.W.codeRec_of KX hcd) (hb _ _ _ _
    (wpAny_newFunctionEnv_cells S.kind (fun y hy => ?_) fun env he s1 y => ?_))
  · obtain ⟨n, v⟩ := y
    exact (S.par n (List.of_mem_zip hy).1).imp id fun z => ⟨z, PySem.W.cellsFrom_some _ _ _ (.inl z)⟩
  · subst he
    refine ⟨lim.keeps y.toInCall.keep, codeAny_func ?_⟩
    obtain ⟨t, ht, hq⟩ := hbody cdv A outer s H vs Q E (hr.deeper _) h0 hsp
    have I : Inv (cxOf CX0 P w K mg base N qual (defScope st) f cdv A outer s H E) [] (start N vs) H s1 :=
      inv_start S hr.hd e0 (len _ _ _ _ hsp) r y
    refine wpAny_mono (ht.nox.run [] s1 (start N vs) H _ I hq) (fun fl s' hs => ?_) fun e s' hs => hs
    match fl, hs with
    | .ret u, ⟨v, σ', H', J, rv, q⟩ => exact ⟨v, H', J.os, J.bare, J.base, J.hok, rv, q⟩
    | .next, ⟨σ', H', J, q⟩ => exact ⟨V.non, H', J.os, J.bare, J.base, J.hok, rfl, q⟩
    | .brk, ⟨_, _, _, q⟩ => exact False.elim q
    | .cont, ⟨_, _, _, q⟩ => exact False.elim q
end
end Ea
set_option Elab.async false
set_option linter.all false
set_option maxRecDepth 100000
set_option maxHeartbeats 4000000
/-! The law's own call, from a promise that needs that nothing is being shown. -/
namespace Ea
open PySem PySem.Spec PyProof.Rows L2

section
variable {P : Program} {w : World} {K : PySem.W.Frag} {mg mb : Str → Option Value} {k : Nat} {fa a : Addr} {fd : FuncData} {x : Str} {sp : Sp}
  {s₁ : Shared} {vs : List Value} {ns : List Int}
/-- what the call is to end with -/
abbrev Fine (s₁ : Shared) : Result → Shared → Prop := fun r s' => r = .ok (.ret (.bool true)) ∧ OldK s₁.heap s'.heap ∧ s'.os = s₁.os ∧ AllBare s'.gens

theorem call_from (KX : K.In s₁.heap) (hns : s₁.heap.Ns mainGlobals mg) (hb : s₁.heap.Ns builtinsNs mb)
    (hbb : ∀ x : Str, x ≠ "__name__" → mb x = bootBuiltins x) (hlim : s₁.heap.NoLimit) (hg : s₁.gens = #[])
    (ha : s₁.heap.get? a = some { cls := .type "list", data := .seq vs.toArray }) (hr : Room k callerA)
    (F : ∀ base : Heap, K.In base → base.Ns mainGlobals mg → FnG P w K mg base k fa fd [x] sp)
    (hbind : ∀ (s : Shared) (u : Value), BindsTo s fd ⟨[u], []⟩ [(x, u)])
    {H : Hp} (hO : Only H) (hok : HOk P w H s₁.heap) (hA : ∀ b, H b ≠ none → b = a) (hK : H a ≠ none → K.lookup a = none)
    (h : sp [.ref a] H (fun v _ => v = .bl true) fun _ _ _ => False) :
    codeAny (model P w) callerA (.call (.ref fa) ⟨[.ref a], []⟩) (Fine s₁) s₁ := by
  have out : ∀ {b : Addr}, (∃ u, H b = some u) → b = a := fun {b} ⟨u, e⟩ => hA b (by rw [e]; exact nofun)
  have free : ∀ {b : Addr} {o : Obj} {es : Array DictEntry} {ep : Nat}, s₁.heap.get? b = some o → o.data = .dict es ep → H b = none := by
    intro b o es ep e d
    cases q : H b with
    | none => rfl
    | some u =>
      obtain rfl := out ⟨u, q⟩
      rw [ha] at e
      cases e
      cases d
  have nsK : ∀ {b : Addr} {m : Str → Option Value}, s₁.heap.Ns b m → (hidT s₁.heap H).Ns b m :=
    fun {b m} ⟨o, es, ep, e, d, r⟩ => ⟨o, es, ep, hidT_get e (free e d), d, r⟩
  have hKb : K.In (hidT s₁.heap H) := by
    intro b o e
    refine hidT_get (KX b o e) ?_
    cases q : H b with
    | none => rfl
    | some u =>
      obtain rfl := out ⟨u, q⟩
      rw [hK (by rw [q]; exact nofun)] at e
      cases e
  have lim : (hidT s₁.heap H).NoLimit := by
    obtain ⟨mc, h1, h2⟩ := hlim
    exact ⟨mc, nsK h1, h2⟩
  have e0 : Env0 P w K mg (hidT s₁.heap H) callerA [] s₁ H :=
    ⟨rfl, ⟨hKb, nsK hns, ⟨mb, nsK hb, hbb⟩, lim⟩, fun b o e => of_hidT e, Nat.le_of_eq (hidT_size _ _), trivial, nofun, hok, .of_eq hg⟩
  have run := (F _ hKb (nsK hns)).run callerA [] s₁ H ⟨[.ref a], []⟩ [.ref a] [.ref a] (fun v _ => v = .bl true) (fun _ _ _ => False) hr rfl e0
    (hbind s₁ (.ref a)) (.cons rfl .nil) h
  refine codeAny_mono run fun r s' hq => ?_
  match r, hq with
  | .error e, hq => exact False.elim hq
  | .ok (.ret u), ⟨v, H', os, bare, un, hok', r', (q' : v = .bl true)⟩ =>
    subst q'
    obtain rfl : u = Value.bool true := r'
    refine ⟨rfl, OldK.of_keep fun b o e => ?_, os, bare⟩
    cases q : H b with
    | none => exact un.keep b o e q nofun nofun
    | some u =>
      rcases hO b with z | ⟨ob, xs, z⟩
      · rw [q] at z
        cases z
      · obtain ⟨e1, _⟩ := hok b _ z
        obtain ⟨e2, _⟩ := hok' b _ (un.frzs b ob _ z)
        rw [e] at e1
        cases e1
        exact e2

theorem call_law (KX : K.In s₁.heap) (hns : s₁.heap.Ns mainGlobals mg) (hb : s₁.heap.Ns builtinsNs mb)
    (hbb : ∀ x : Str, x ≠ "__name__" → mb x = bootBuiltins x) (hlim : s₁.heap.NoLimit) (hg : s₁.gens = #[])
    (ha : s₁.heap.get? a = some { cls := .type "list", data := .seq vs.toArray }) (hi : IntsAre vs ns) (hl : ns.length ≤ sizeLine) (hr : Room k callerA)
    (F : ∀ base : Heap, K.In base → base.Ns mainGlobals mg → FnG P w K mg base k fa fd [x] sp)
    (hbind : ∀ (s : Shared) (u : Value), BindsTo s fd ⟨[u], []⟩ [(x, u)])
    (hsp : ∀ H : Hp, Only H → SqL K H a (ns.map V.int) → sp [.ref a] H (fun v _ => v = .bl true) fun _ _ _ => False) :
    codeAny (model P w) callerA (.call (.ref fa) ⟨[.ref a], []⟩) (Fine s₁) s₁ := by
  have rv := vals_ints hi
  cases hk : K.lookup a with
  | some o =>
    have e := KX a o hk
    rw [ha] at e
    cases e
    have hS : SqL K (fun _ => none) a (ns.map V.int) :=
      .inr ⟨_, vs.toArray, _, hk, rfl, rfl, rfl, by rw [List.size_toArray, hi.length]; exact hl, by simpa using rv⟩
    exact call_from KX hns hb hbb hlim hg ha hr F hbind (H := fun _ => none) (fun _ => .inl rfl) nofun (fun b z => absurd rfl z) (fun z => absurd rfl z) (hsp _ (fun _ => .inl rfl) hS)
  | none =>
    let one : HO := .frz { cls := .type "list", data := .seq vs.toArray } (.lst (ns.map V.int))
    let H : Hp := fun b => if b = a then some one else none
    have at_ : H a = some one := if_pos rfl
    have off : ∀ {b : Addr}, b ≠ a → H b = none := fun h => if_neg h
    have hO : Only H := fun b => by
      by_cases e : b = a
      · subst e
        exact .inr ⟨_, _, at_⟩
      · exact .inl (off e)
    have hS : SqL K H a (ns.map V.int) := .inl (.inr ⟨_, at_⟩)
    refine call_from KX hns hb hbb hlim hg ha hr F hbind hO (fun b u z => ?_) (fun b z => ?_) (fun _ => hk) (hsp H hO hS)
    · by_cases e : b = a
      · subst e
        rw [at_] at z
        cases z
        exact ⟨ha, by rw [List.length_map]; exact hl, vs, _, rv, ha⟩
      · rw [off e] at z
        cases z
    · by_cases e : b = a
      · exact e
      · exact absurd (off e) z
end
theorem walk_G {l : PySem.W.OpenLaw} {n k : Nat} {q : Program} {loose : List Str} {XP : (Str → Option Value) → Heap → Prop} {YP : World → Heap → Prop}
    {d : DefRec} {K : Params → PySem.W.Frag} {sp : World → Sp} {x : Str}
    (hn : l.most = some n) (hn2 : n ≤ sizeLine) (hdf : d.params.defaults = []) (hr : Room k callerA)
    (hY : ∀ (w : World) (h : Heap), YP w h → (K w.params).In h)
    (F : ∀ (w : World) (mg : Str → Option Value) (fa : Addr) (h : Heap), (K w.params).In h → h.Ns mainGlobals mg → mg d.name = some (.ref fa) →
      ∃ fd : FuncData, (∀ (s : Shared) (u : Value), BindsTo s fd ⟨[u], []⟩ [(x, u)]) ∧
        ∀ base : Heap, (K w.params).In base → base.Ns mainGlobals mg → FnG l.prog w (K w.params) mg base k fa fd [x] (sp w))
    (hsp : ∀ (w : World) (H : Hp) (a : Addr) (ns : List Int), ns.length ≤ n → Only H → SqL (K w.params) H a (ns.map V.int) →
      sp w [.ref a] H (fun v _ => v = .bl true) fun _ _ _ => False) :
    PySem.W.WalkO q loose XP YP l.row.toRowW d [] (fun f vs => PySem.call f vs) := by
  refine Att.attach_call hn hdf fun w s₀ s₁ mg mb fa o pm cd doc a vs ns G Y ho hd hcd hmg hobj hints hlen hg => ?_
  obtain ⟨fd, hb, hF⟩ := F w mg fa _ (hY w _ Y) G.T.g hmg
  exact call_law (hY w _ Y) G.T.g G.T.b G.T.builtins G.T.nolimit hg hobj hints (Nat.le_trans hlen hn2) hr hF hb fun H hO hS => hsp w H a ns hlen hO hS
end Ea
set_option Elab.async false
set_option linter.all false
set_option maxRecDepth 100000
set_option maxHeartbeats 4000000
/-! Readings gone through from the left: one lemma for each shape; a deck of draws (a dict). -/
namespace Ea
open PySem PySem.Spec PyProof.Rows L2

/-! ### built-ins by names of their own -/
def rInt : List V → Hp → VK → Prop := fun xs H Q => (∃ i, xs = [.int i] ∧ Q (.int i) H) ∨ ∃ k, xs = [.bl k] ∧ Q (.int (if k then 1 else 0)) H
def rAbs : List V → Hp → VK → Prop := fun xs H Q => ∃ i, xs = [.int i] ∧ Q (.int (if i < 0 then -i else i)) H
def rMin2 : List V → Hp → VK → Prop := fun xs H Q => ∃ i j, xs = [.int i, .int j] ∧ Q (.int (if j < i then j else i)) H
def rMax2 : List V → Hp → VK → Prop := fun xs H Q => ∃ i j, xs = [.int i, .int j] ∧ Q (.int (if j > i then j else i)) H
def rLenQ (K : PySem.W.Frag) : List V → Hp → VK → Prop := fun xs H Q => ∃ p ys, xs = [.ref p] ∧ (SqL K H p ys ∨ SqT K H p ys) ∧ Q (.int ys.length) H
def rLenS : List V → Hp → VK → Prop := fun xs H Q => ∃ z, xs = [.str z] ∧ z.length ≤ sizeLine ∧ Q (.int z.length) H
def rTupOf (K : PySem.W.Frag) : List V → Hp → VK → Prop := fun xs H Q => ∃ p ys, xs = [.ref p] ∧ ((SqL K H p ys ∧ ∀ l, H l = none → Q (.ref l) (upd H l (.tup ys))) ∨ (SqT K H p ys ∧ Q (.ref p) H))
def rListOf (K : PySem.W.Frag) : List V → Hp → VK → Prop := fun xs H Q => ∃ p ys, xs = [.ref p] ∧ (SqL K H p ys ∨ SqT K H p ys) ∧ ∀ l, H l = none → Q (.ref l) (upd H l (.lst ys))
section
variable {X : Cx}
theorem c_int : CallR X (.type "int") rInt := call_int1
theorem c_abs : CallR X (.builtin "abs") rAbs := call_abs
theorem c_min2 (hc : X.calm = true) : CallR X (.builtin "min") rMin2 := call_min2 hc
theorem c_max2 (hc : X.calm = true) : CallR X (.builtin "max") rMax2 := call_max2 hc
theorem c_len {K : PySem.W.Frag} (h : X.K = K) : CallR X (.builtin "len") (rLenQ K) := h ▸ call_len_seq
theorem c_lenS : CallR X (.builtin "len") rLenS := call_len_str
theorem c_tuple {K : PySem.W.Frag} (h : X.K = K) : CallR X (.type "tuple") (rTupOf K) := h ▸ call_tuple_of
theorem c_list {K : PySem.W.Frag} (h : X.K = K) : CallR X (.type "list") (rListOf K) := h ▸ call_list_of
theorem c_sum {K : PySem.W.Frag} (h : X.K = K) (hc : X.calm = true) : CallR X (.builtin "sum") (rSum K) := h ▸ cr_sum hc
theorem c_max {K : PySem.W.Frag} (h : X.K = K) (hc : X.calm = true) : CallR X (.builtin "max") (rMax K) := h ▸ cr_max hc
theorem c_min {K : PySem.W.Frag} (h : X.K = K) (hc : X.calm = true) : CallR X (.builtin "min") (rMin K) := h ▸ cr_min hc
theorem c_sorted {K : PySem.W.Frag} (h : X.K = K) : CallR X (.builtin "sorted") (rSortedI K) := h ▸ cr_sortedI
theorem c_repr {K : PySem.W.Frag} (h : X.K = K) (hg : X.A.guards = some []) (hu : X.A.units + 64 < cLine) : CallR X (.builtin "repr") (rRepr K) := h ▸ cr_repr hg hu
theorem c_set {K : PySem.W.Frag} {w : World} (h : X.K = K) (h2 : X.w = w) (hc : X.calm = true) : CallR X (.type "set") (rSetI K w) := h ▸ h2 ▸ cr_setI hc
theorem ik_list {K : PySem.W.Frag} (h : X.K = K) : IxR X (rIxL K) := h ▸ ix_list
theorem ik_tup {K : PySem.W.Frag} (h : X.K = K) : IxR X (rIxT K) := h ▸ ix_tup
theorem ik_dict {K : PySem.W.Frag} {w : World} (h : X.K = K) (h2 : X.w = w) : IxR X (rIxD K w) := h ▸ h2 ▸ ix_kdict
theorem sk_list {K : PySem.W.Frag} (h : X.K = K) : SlR X (rSlL K) := h ▸ sl_list
theorem sk_tup {K : PySem.W.Frag} (h : X.K = K) : SlR X (rSlA K) := h ▸ sl_tupA
theorem ok_in {K : PySem.W.Frag} (h : X.K = K) : OpR X (compareOp .In) (rIn K false) := h ▸ op_in_seq
theorem ok_notIn {K : PySem.W.Frag} (h : X.K = K) : OpR X (compareOp .NotIn) (rIn K true) := h ▸ op_notIn_seq
theorem ok_eqD {K : PySem.W.Frag} (h : X.K = K) (hu : X.A.units + 64 < cLine) : OpR X (compareOp .Eq) (rEqD K) := h ▸ op_eqD hu
theorem ok_neD {K : PySem.W.Frag} (h : X.K = K) (hu : X.A.units + 64 < cLine) : OpR X (compareOp .NotEq) (rNeD K) := h ▸ op_neD hu
theorem ok_catT {K : PySem.W.Frag} (h : X.K = K) : OpR X (binaryOp .Add) (rCatA K) := h ▸ op_catA
theorem ok_sin {w : World} (h : X.w = w) : OpR X (compareOp .In) (rSIn w) := h ▸ or_sin
theorem ok_snotin {w : World} (h : X.w = w) : OpR X (compareOp .NotIn) (rSNotIn w) := h ▸ or_snotin
theorem ik_tupI {K : PySem.W.Frag} (h : X.K = K) {tg l : Expr} {tl : TE} (hl : PE X l tl) : PI X tg l (iTup K tl) := h ▸ pi_tup hl
theorem ik_listI {K : PySem.W.Frag} (h : X.K = K) {tg l : Expr} {tl : TE} (hl : PE X l tl) : PI X tg l (iList K tl) := h ▸ pi_list hl
def tTruK (K : PySem.W.Frag) (ta : TE) : TT := fun σ H Q => ta σ H fun x H' => ∃ k, TruV K x H' k ∧ Q k H'
theorem pk_truth {K : PySem.W.Frag} (h : X.K = K) {a : Expr} {ta : TE} (ha : PE X a ta)
    (he : ∀ whole, isTrue a X.env whole = (do let v ← whole; standAt a.pos; holding [v] (truthy v))) : PT X a (tTruK K ta) := h ▸ pt_truth ha he
end
section
variable {K : PySem.W.Frag} {σ σ' : L2.St} {H : Hp} {Q : VK} {QB : Bool → Hp → Prop} {QA : List V → Hp → Prop} {D : Ends} {i j : Nat} {x y v w : V}
  {ta tb te td ty : TE} {tt tu : TT} {r : R2} {a b : Int} {ts tz : TS} {g : Int → Int → V} {gi : Int → V} {C : Int → Int → Prop} {tr : TA} {tl th : TO}
theorem rd_start {t : TS} (e : σ = σ') (h : t D σ' H) : t D σ H := by
  subst e
  exact h
theorem rd_seq (h : ts { D with nx := tz D } σ H) : tSeq ts tz D σ H := h
theorem rd_if (h : tt σ H fun c H1 => if c = true then ts D σ H1 else tz D σ H1) : tIfS tt ts tz D σ H := h
theorem rd_next (h : D.nx σ H) : tNext D σ H := h
theorem rd_ret (h : te σ H D.rt) : tRet te D σ H := h
theorem rd_drop (h : te σ H fun _ H1 => D.nx σ H1) : tDrop te D σ H := h
theorem rd_asg {tg : TG} (h : te σ H fun x H1 => tg x σ H1 D.nx) : tAsg te tg D σ H := h
theorem rd_name {N : L2.St → Hp → Prop} (hs : σ.set i (some v) = σ') (h : N σ' H) : gName i v σ H N := by
  subst hs
  exact h
theorem rd_var (hv : σ[i]? = some (some v)) (h : Q v H) : tVar i σ H Q := ⟨v, hv, h⟩
theorem rd_c (h : Q v H) : tC v σ H Q := h
theorem rd_op (h : ta σ H fun x H1 => tb σ H1 fun y H2 => r x y H2 Q) : tOp r ta tb σ H Q := h
theorem rd_un {ru : V → Hp → VK → Prop} (h : ta σ H fun x H1 => ru x H1 Q) : tUn ru ta σ H Q := h
theorem rd_I0 (h : Q (g a b) H) : rI0 g (.int a) (.int b) H Q := ⟨a, b, rfl, rfl, h⟩
theorem rd_I (hc : C a b) (h : Q (g a b) H) : rI C g (.int a) (.int b) H Q := ⟨a, b, rfl, rfl, hc, h⟩
theorem rd_U (h : Q (gi a) H) : rU gi (.int a) H Q := ⟨a, rfl, h⟩
theorem rd_eq (hs : scal x y = true) (h : Q (.bl (decide (x = y))) H) : rEq x y H Q := ⟨hs, h⟩
theorem rd_ne (hs : scal x y = true) (h : Q (.bl (!decide (x = y))) H) : rNe x y H Q := ⟨hs, h⟩
theorem rd_test (h : te σ H fun x H' => ∃ k, x = .bl k ∧ QB k H') : tTest te σ H QB := h
theorem rd_B (h : te σ H fun x H' => ∃ k, x = .bl k ∧ QB k H') : tB te σ H QB := h
theorem rd_not (h : tt σ H fun c H1 => QB (!c) H1) : tNot tt σ H QB := h
theorem rd_and (h : tt σ H fun c H1 => if c = true then tu σ H1 QB else QB false H1) : tAnd tt tu σ H QB := h
theorem rd_or (h : tt σ H fun c H1 => if c = true then QB true H1 else tu σ H1 QB) : tOr tt tu σ H QB := h
theorem rd_k {b : Bool} {P : Bool → Prop} (h : P b) : ∃ k, V.bl b = V.bl k ∧ P k := ⟨b, rfl, h⟩
theorem rd_ite {p : Prop} {_ : Decidable p} {A B : Prop} (h1 : p → A) (h2 : ¬ p → B) : if decide p = true then A else B := by
  by_cases h : p
  · rw [if_pos (decide_eq_true h)]
    exact h1 h
  · rw [if_neg (by rw [decide_eq_true_eq]; exact h)]
    exact h2 h
theorem rd_iten {p : Prop} {_ : Decidable p} {A B : Prop} (h1 : ¬ p → A) (h2 : p → B) : if (!decide p) = true then A else B := by
  by_cases h : p
  · rw [decide_eq_true h]
    exact h2 h
  · rw [decide_eq_false h]
    exact h1 h
theorem rd_iteb {b : Bool} {A B : Prop} (h1 : b = true → A) (h2 : b = false → B) : if b = true then A else B := by
  cases b with
  | true => exact h1 rfl
  | false => exact h2 rfl
theorem rd_ifE (h : tt σ H fun c H1 => if c = true then ta σ H1 Q else tb σ H1 Q) : tIf tt ta tb σ H Q := h
theorem rd_nil (h : QA [] H) : tNil σ H QA := h
theorem rd_cons (h : te σ H fun x H1 => tr σ H1 fun xs H2 => QA (x :: xs) H2) : tCons te tr σ H QA := h
theorem rd_call {sp : Sp} {ds : List V} {E : XK} (h : tr σ H fun vs H1 => sp (vs ++ ds) H1 Q E) : tCall sp ds E tr σ H Q := h
theorem rd_cb {rc : List V → Hp → VK → Prop} (h : tr σ H fun vs H1 => rc vs H1 Q) : tCB rc tr σ H Q := h
theorem rd_tup (h : tr σ H fun xs H1 => xs.length ≤ sizeLine ∧ ∀ p, H1 p = none → Q (.ref p) (upd H1 p (.tup xs))) : tTup tr σ H Q := h
theorem rd_lst (h : tr σ H fun xs H1 => xs.length ≤ sizeLine ∧ ∀ p, H1 p = none → Q (.ref p) (upd H1 p (.lst xs))) : tLst tr σ H Q := h
theorem rd_dget (h : td σ H fun x H1 => ty σ H1 fun y H2 => ∃ a v, x = .ref a ∧ DGet H2 a y (some v) ∧ Q v H2) : tDGet td ty σ H Q := h
theorem rd_sl {rs : V → Option Int → Option Int → Hp → VK → Prop} (h : te σ H fun x H1 => tl σ H1 fun l H2 => th σ H2 fun u H3 => rs x l u H3 Q) : tSl rs te tl th σ H Q := h
theorem rd_nopart {QO : Option Int → Hp → Prop} (h : QO none H) : tNoPart σ H QO := h
theorem rd_part {QO : Option Int → Hp → Prop} (h : te σ H fun x H1 => ∃ i, x = .int i ∧ QO (some i) H1) : tPart te σ H QO := h
theorem rd_parti {P : Int → Prop} (h : P a) : ∃ i, V.int a = .int i ∧ P i := ⟨a, rfl, h⟩
theorem rd_bm {T : String} {rm : V → List V → Hp → VK → Prop} (h : te σ H fun x H1 => tyV K T x H1 ∧ tr σ H1 fun xs H2 => rm x xs H2 Q) : tBM K T rm te tr σ H Q := h
theorem rd_bm0 {T : String} {rm : V → List V → Hp → VK → Prop} (h : te σ H fun x H1 => tyV K T x H1 ∧ rm x [] H1 Q) : tBM0 K T rm te σ H Q := h
theorem rd_dput (h : te σ H fun v H1 => td σ H1 fun x H2 => ty σ H2 fun y H3 => ∃ a H4, x = .ref a ∧ DPut H3 a y v H4 ∧ D.nx σ H4) : sDPut td ty te D σ H := h
theorem rd_par {t : TA} (h : t σ H fun vs H1 => ∃ v w, vs = [v, w] ∧ D.nx ((σ.set i (some v)).set j (some w)) H1) : tPar i j t D σ H := h
theorem rd_par2 {N : L2.St → Hp → Prop} (hs : (σ.set i (some v)).set j (some w) = σ') (h : N σ' H) :
    ∃ v' w', ([v, w] : List V) = [v', w'] ∧ N ((σ.set i (some v')).set j (some w')) H := by
  subst hs
  exact ⟨v, w, rfl, h⟩
/-- while, by a word that falls -/
theorem rd_while (W : Nat → L2.St → Hp → Prop) (m : Nat) (h0 : W m σ H)
    (hs : ∀ m σ1 H1, W m σ1 H1 → tt σ1 H1 fun b H2 => if b = true then
      ts { D with nx := fun σ' H' => ∃ m', m' < m ∧ W m' σ' H', ct := fun σ' H' => ∃ m', m' < m ∧ W m' σ' H', bk := D.nx } σ1 H2 else D.nx σ1 H2)
    (mono : ∀ σ H Q Q', (∀ b H1, Q b H1 → Q' b H1) → tt σ H Q → tt σ H Q') : tWhile tt ts D σ H :=
  ⟨W, ⟨m, h0⟩, fun m σ1 H1 w => mono _ _ _ _ (fun b H2 h => by
    cases b with
    | true => exact ⟨_, fun _ _ z => z, h⟩
    | false => exact h) (hs m σ1 H1 w)⟩
theorem rd_whileE (h : ∃ W : Nat → L2.St → Hp → Prop, (∃ m, W m σ H) ∧ ∀ m σ H, W m σ H → tt σ H fun b H1 => if b = true then ∃ N : L2.St → Hp → Prop,
    (∀ σ' H', N σ' H' → ∃ m', m' < m ∧ W m' σ' H') ∧ ts { D with nx := N, ct := N, bk := D.nx } σ H1 else D.nx σ H1) : tWhile tt ts D σ H := h
theorem rd_tru (h : ta σ H fun x H' => ∃ k, TruV K x H' k ∧ QB k H') : tTruK K ta σ H QB := h
theorem rd_truI {P : Bool → Prop} (h : P (a != 0)) : ∃ k, TruV K (.int a) H k ∧ P k := ⟨_, rfl, h⟩
theorem rd_int1 (h : Q (.int a) H) : (∃ i, ([.int a] : List V) = [.int i] ∧ Q (.int i) H) ∨ ∃ k, ([.int a] : List V) = [.bl k] ∧ Q (.int (if k then 1 else 0)) H := .inl ⟨a, rfl, h⟩
end

section
variable {K : PySem.W.Frag} {H : Hp} {Q : VK} {a b : Int} {k : Bool} {p : Addr} {ys : List V} {z : Str}
theorem rd_int (h : Q (.int a) H) : rInt [.int a] H Q := .inl ⟨a, rfl, h⟩
theorem rd_intb (h : Q (.int (if k then 1 else 0)) H) : rInt [.bl k] H Q := .inr ⟨k, rfl, h⟩
theorem rd_abs (h : Q (.int (a.natAbs : Int)) H) : rAbs [.int a] H Q := ⟨a, rfl, by
  rw [show (if a < 0 then -a else a) = (a.natAbs : Int) by split <;> omega]
  exact h⟩
theorem rd_min2 (h : Q (.int (if b < a then b else a)) H) : rMin2 [.int a, .int b] H Q := ⟨a, b, rfl, h⟩
theorem rd_max2 (h : Q (.int (if b > a then b else a)) H) : rMax2 [.int a, .int b] H Q := ⟨a, b, rfl, h⟩
theorem rd_lenL (s : SqL K H p ys) (h : Q (.int ys.length) H) : rLenQ K [.ref p] H Q := ⟨p, ys, rfl, .inl s, h⟩
theorem rd_lenT (s : SqT K H p ys) (h : Q (.int ys.length) H) : rLenQ K [.ref p] H Q := ⟨p, ys, rfl, .inr s, h⟩
theorem rd_lenS (s : z.length ≤ sizeLine) (h : Q (.int z.length) H) : rLenS [.str z] H Q := ⟨z, rfl, s, h⟩
theorem rd_tupL (s : SqL K H p ys) (h : ∀ l, H l = none → Q (.ref l) (upd H l (.tup ys))) : rTupOf K [.ref p] H Q := ⟨p, ys, rfl, .inl ⟨s, h⟩⟩
theorem rd_tupT (s : SqT K H p ys) (h : Q (.ref p) H) : rTupOf K [.ref p] H Q := ⟨p, ys, rfl, .inr ⟨s, h⟩⟩
theorem rd_listL (s : SqL K H p ys) (h : ∀ l, H l = none → Q (.ref l) (upd H l (.lst ys))) : rListOf K [.ref p] H Q := ⟨p, ys, rfl, .inl s, h⟩
theorem rd_listT (s : SqT K H p ys) (h : ∀ l, H l = none → Q (.ref l) (upd H l (.lst ys))) : rListOf K [.ref p] H Q := ⟨p, ys, rfl, .inr s, h⟩
theorem rd_ixL {x : V} {i : Int} (s : SqL K H p ys) (e : atI ys i = some x) (h : Q x H) : rIxL K (.ref p) (.int i) H Q := ⟨p, ys, i, x, rfl, rfl, s, e, h⟩
theorem rd_ixT {x : V} {i : Int} (s : SqT K H p ys) (e : atI ys i = some x) (h : Q x H) : rIxT K (.ref p) (.int i) H Q := ⟨p, ys, i, x, rfl, rfl, s, e, h⟩
theorem rd_ixS {c : Nat} {i : Int} (s : z.length ≤ sizeLine) (e : atI z.cps.toList i = some c) (h : Q (.str ⟨#[c]⟩) H) : rIxS (.str z) (.int i) H Q := ⟨z, i, c, rfl, rfl, s, e, h⟩
end

/-! ### a deck of draws, a dict -/
def DeckB (d l : Addr) (H : Hp) : Prop := ∃ (ns : List Int) (s : Int),
  H d = some (.dK [(.inr "deep", .ref l), (.inr "state", .int s)]) ∧ H l = some (.lst (ns.map V.int)) ∧ ns.length ≤ 63 ∧ (∀ n ∈ ns, 0 ≤ n) ∧ 0 ≤ s ∧ s < 2305843009213693951
/-- what is left as it was by draws: all but the deck -/
structure Go (d l : Addr) (H H' : Hp) : Prop where
  dk : DeckB d l H'
  kp : ∀ a o, a ≠ d → a ≠ l → H a = some o → H' a = some o
section
variable {d l : Addr} {H H1 H2 : Hp}
theorem DeckB.ne (h : DeckB d l H) : d ≠ l := by
  obtain ⟨ns, s, e1, e2, _⟩ := h
  exact ne_of e1 e2 nofun
theorem Go.refl (h : DeckB d l H) : Go d l H H := ⟨h, fun _ _ _ _ e => e⟩
theorem Go.trans (a : Go d l H H1) (b : Go d l H1 H2) : Go d l H H2 := ⟨b.dk, fun p o n1 n2 e => b.kp p o n1 n2 (a.kp p o n1 n2 e)⟩
theorem DeckB.off (h : DeckB d l H) {p : Addr} (e : H p = none) : p ≠ d ∧ p ≠ l := by
  obtain ⟨ns, s, e1, e2, _⟩ := h
  exact ⟨fun z => (by rw [z, e1] at e; cases e), fun z => (by rw [z, e2] at e; cases e)⟩
theorem DeckB.upd (h : DeckB d l H) {p : Addr} {o : HO} (n1 : p ≠ d) (n2 : p ≠ l) : DeckB d l (upd H p o) := by
  obtain ⟨ns, s, e1, e2, r⟩ := h
  exact ⟨ns, s, by rw [upd_ne n1.symm]; exact e1, by rw [upd_ne n2.symm]; exact e2, r⟩
theorem Go.new (h : DeckB d l H) {p : Addr} {o : HO} (e : H p = none) : Go d l H (upd H p o) := by
  obtain ⟨n1, n2⟩ := h.off e
  exact ⟨h.upd n1 n2, fun q u _ _ eq => by rw [upd_ne (ne_of_none eq e)]; exact eq⟩
/-- an object that H does not know may change -/
theorem Go.mut (g : Go d l H H1) (h : DeckB d l H) {p : Addr} {o : HO} (e : H p = none) : Go d l H (upd H1 p o) := by
  obtain ⟨n1, n2⟩ := h.off e
  exact ⟨g.dk.upd n1 n2, fun q u m1 m2 eq => by rw [upd_ne (ne_of_none eq e)]; exact g.kp q u m1 m2 eq⟩
theorem Go.back (g : Go d l H H1) (h : DeckB d l H) {p : Addr} (e : H1 p = none) : H p = none := by
  obtain ⟨n1, n2⟩ := g.dk.off e
  cases q : H p with
  | none => rfl
  | some o =>
    rw [g.kp p o n1 n2 q] at e
    cases e
/-- a tuple stays -/
theorem Go.tup {K : PySem.W.Frag} (g : Go d l H H1) (h : DeckB d l H) {a : Addr} {xs : List V} (t : SqT K H a xs) : SqT K H1 a xs := by
  obtain ⟨ns, s, e1, e2, _⟩ := h
  have hn : ∀ {o : HO}, H a = some o → (∀ kv, o ≠ .dK kv) → (∀ ys, o ≠ .lst ys) → H1 a = some o := fun e c1 c2 =>
    g.kp a _ (fun z => (by rw [z, e1] at e; cases e; exact c1 _ rfl)) (fun z => (by rw [z, e2] at e; cases e; exact c2 _ rfl)) e
  rcases t with (t | ⟨o, t⟩) | t
  · exact .inl (.inl (hn t nofun nofun))
  · exact .inl (.inr ⟨o, hn t nofun nofun⟩)
  · exact .inr t
end
end Ea
set_option Elab.async false
set_option linter.all false
set_option maxRecDepth 100000
set_option maxHeartbeats 4000000
/-! Data that can be shown, compared: how great they are. -/
namespace Ea
open PySem PySem.Spec PyProof.Rows L2

structure Nice (n k : Nat) (d : PyData) : Prop where
  bulk : d.bulk ≤ n
  depth : d.depth ≤ k
  lay : d.canLay0 = true
  show_ : d.showable = true
  short : d.leavesShort 13 = true
  dict : d.hasDict = false
structure NiceAll (n k : Nat) (ds : List PyData) : Prop where
  bulk : PyData.bulkAll ds ≤ n
  depth : PyData.depthAll ds ≤ k
  lay : PyData.canLayAll0 ds = true
  show_ : PyData.showableAll ds = true
  short : PyData.leavesShortAll 13 ds = true
  dict : PyData.hasDictAll ds = false
theorem Nice.mono {n k m j : Nat} {d : PyData} (h : Nice n k d) (a : n ≤ m) (b : k ≤ j) : Nice m j d := ⟨Nat.le_trans h.bulk a, Nat.le_trans h.depth b, h.lay, h.show_, h.short, h.dict⟩
theorem NiceAll.mono {n k m j : Nat} {d : List PyData} (h : NiceAll n k d) (a : n ≤ m) (b : k ≤ j) : NiceAll m j d := ⟨Nat.le_trans h.bulk a, Nat.le_trans h.depth b, h.lay, h.show_, h.short, h.dict⟩
theorem Nice.non : Nice 0 0 .none := ⟨Nat.le_refl _, Nat.le_refl _, rfl, rfl, rfl, rfl⟩
theorem Nice.bool (b : Bool) : Nice 0 0 (.bool b) := ⟨Nat.le_refl _, Nat.le_refl _, rfl, rfl, rfl, rfl⟩
theorem log2_small {n : Nat} (h : n < 10 ^ 12) : n.log2 < 1920 := by
  by_cases h0 : n = 0
  · subst h0
    decide
  · rw [Nat.log2_lt h0]
    exact Nat.lt_trans h (by decide +kernel)
theorem Nice.int {i : Int} (h : i.natAbs < 10 ^ 12) : Nice 0 0 (.int i) :=
  ⟨Nat.le_refl _, Nat.le_refl _, rfl, decide_eq_true (log2_small h), decide_eq_true (PyData.shown_int_le h), rfl⟩
theorem Nice.str {x : Str} {n : Nat} (h : x.cps.size ≤ n) (hs : ∀ c ∈ x.cps.toList, c < 1114112) (ho : PyData.canLay0 (.str x) = true) : Nice n 0 (.str x) :=
  ⟨h, Nat.le_refl _, ho, rfl, by
    show (x.cps.toList.all fun c => decide (c < 16 ^ 8)) = true
    rw [List.all_eq_true]
    exact fun c hc => decide_eq_true (Nat.lt_of_lt_of_le (hs c hc) (by decide)), rfl⟩
theorem NiceAll.nil {k : Nat} : NiceAll 0 k [] := ⟨Nat.le_refl _, Nat.zero_le _, rfl, rfl, rfl, rfl⟩
theorem NiceAll.cons {n m k : Nat} {d : PyData} {ds : List PyData} (h : Nice n k d) (hs : NiceAll m k ds) : NiceAll (n + 1 + m) k (d :: ds) := by
  refine ⟨?_, ?_, ?_, ?_, ?_, ?_⟩
  · show d.bulk + 1 + PyData.bulkAll ds ≤ _
    have := h.bulk
    have := hs.bulk
    omega
  · show max d.depth (PyData.depthAll ds) ≤ _
    have := h.depth
    have := hs.depth
    omega
  · show (d.canLay0 && PyData.canLayAll0 ds) = true
    rw [h.lay, hs.lay] <;> rfl
  · show (d.showable && PyData.showableAll ds) = true
    rw [h.show_, hs.show_] <;> rfl
  · show (d.leavesShort 13 && PyData.leavesShortAll 13 ds) = true
    rw [h.short, hs.short] <;> rfl
  · show (d.hasDict || PyData.hasDictAll ds) = false
    rw [h.dict, hs.dict] <;> rfl
theorem Nice.cons2 {n m k : Nat} {d e : PyData} (h : Nice n k d) (h2 : Nice m k e) : NiceAll (n + 1 + (m + 1 + 0)) k [d, e] := NiceAll.cons h (NiceAll.cons h2 NiceAll.nil)
theorem Nice.cons3 {n m o k : Nat} {d e f : PyData} (h : Nice n k d) (h2 : Nice m k e) (h3 : Nice o k f) : NiceAll (n + 1 + (m + 1 + (o + 1 + 0))) k [d, e, f] := NiceAll.cons h (NiceAll.cons h2 (NiceAll.cons h3 NiceAll.nil))
theorem Nice.cons1 {n k : Nat} {d : PyData} (h : Nice n k d) : NiceAll (n + 1 + 0) k [d] := NiceAll.cons h NiceAll.nil
theorem Nice.tup {n k : Nat} {ds : List PyData} (h : NiceAll n k ds) : Nice n (k + 1) (.tuple ds) := ⟨h.bulk, Nat.succ_le_succ h.depth, h.lay, h.show_, h.short, h.dict⟩
theorem Nice.lst {n k : Nat} {ds : List PyData} (h : NiceAll n k ds) : Nice n (k + 1) (.list ds) := ⟨h.bulk, Nat.succ_le_succ h.depth, h.lay, h.show_, h.short, h.dict⟩
def dI (ns : List Int) : List PyData := ns.map PyData.int
theorem NiceAll.ints : ∀ {ns : List Int}, (∀ n ∈ ns, n.natAbs < 10 ^ 12) → NiceAll ns.length 0 (dI ns)
  | [], _ => NiceAll.nil
  | n :: r, h => by
    have z := NiceAll.cons (Nice.int (h n List.mem_cons_self)) (NiceAll.ints (ns := r) fun m hm => h m (List.mem_cons_of_mem _ hm))
    exact z.mono (by rw [List.length_cons]; omega) (Nat.le_refl _)
theorem dp_ints {K : PySem.W.Frag} {H : Hp} : ∀ (ns : List Int), DpAll K H (ns.map V.int) (dI ns)
  | [] => .nil
  | n :: r => .cons (.int n) (dp_ints r)
theorem dp_T {K : PySem.W.Frag} {H : Hp} {a : Addr} {ns : List Int} (h : SqT K H a (ns.map V.int)) : Dp K H (.ref a) (.tuple (dI ns)) := .tup h (dp_ints ns)
theorem dp_L {K : PySem.W.Frag} {H : Hp} {a : Addr} {ns : List Int} (h : SqL K H a (ns.map V.int)) : Dp K H (.ref a) (.list (dI ns)) := .lst h (dp_ints ns)
theorem Nice.shaped {n k : Nat} {d : PyData} (h : Nice n k d) (hk : k ≤ 64) : SeqAt.shaped d = true := by
  show (d.canLay0 && decide (d.depth ≤ 64)) = true
  rw [h.lay, decide_eq_true (Nat.le_trans h.depth hk)] <;> rfl

theorem lay_ints : ∀ ns : List Int, PyData.canLayAll0 (dI ns) = true ∧ PyData.depthAll (dI ns) = 0
  | [] => ⟨rfl, rfl⟩
  | n :: r => by
    obtain ⟨h1, h2⟩ := lay_ints r
    refine ⟨?_, ?_⟩
    · show (true && PyData.canLayAll0 (dI r)) = true
      rw [h1] <;> rfl
    · show max 0 (PyData.depthAll (dI r)) = 0
      rw [h2] <;> rfl
theorem shaped_ints (ns : List Int) : SeqAt.shaped (.list (dI ns)) = true := by
  obtain ⟨h1, h2⟩ := lay_ints ns
  show (PyData.canLayAll0 (dI ns) && decide (PyData.depthAll (dI ns) + 1 ≤ 64)) = true
  rw [h1, h2] <;> rfl
section
variable {K : PySem.W.Frag} {H : Hp} {Q : VK} {x y : V} {d e : PyData} {n k m j : Nat}
theorem rd_repr (hx : Dp K H x d) (h : Nice n k d) (hn : n ≤ 2 ^ 20) (hk : k ≤ 40) (hd : isDisplay d = true) (q : Q (.str d.shown) H) : rRepr K [x] H Q :=
  ⟨x, d, rfl, hx, h.show_, hd, h.dict, Nat.le_trans h.depth hk, PyData.shown_fits_bulk (by decide) (by decide) h.short (Nat.le_trans h.bulk hn), q⟩
theorem rd_eqD (hx : Dp K H x d) (hy : Dp K H y e) (h1 : Nice n k d) (h2 : Nice m j e) (hk : k ≤ 64) (hj : j ≤ 64) (q : Q (.bl (PyData.eqv d e)) H) : rEqD K x y H Q :=
  ⟨d, e, hx, hy, h1.shaped hk, h2.shaped hj, q⟩
theorem rd_neD (hx : Dp K H x d) (hy : Dp K H y e) (h1 : Nice n k d) (h2 : Nice m j e) (hk : k ≤ 64) (hj : j ≤ 64) (q : Q (.bl (!PyData.eqv d e)) H) : rNeD K x y H Q :=
  ⟨d, e, hx, hy, h1.shaped hk, h2.shaped hj, q⟩
/-- xs != [] -/
theorem rd_full {p : Addr} {a : Addr} {vs : List V} {ds : List PyData} (hx : SqL K H a vs) (hv : DpAll K H vs ds) (h : SeqAt.shaped (.list ds) = true) (hp : SqL K H p [])
    (q : Q (.bl (!vs.isEmpty)) H) : rNeD K (.ref a) (.ref p) H Q := by
  refine ⟨.list ds, .list [], .lst hx hv, .lst hp .nil, h, rfl, ?_⟩
  cases hv with
  | nil => exact q
  | cons a b => exact q
end
section
variable {K : PySem.W.Frag} {H : Hp} {Q : VK} {l : Addr} {xs : List V} {y : V} {A : Prop}
theorem rd_tyL (h : H l = some (.lst xs)) (q : A) : tyV K "list" (.ref l) H ∧ A := ⟨.inl ⟨rfl, _, SqL.of h⟩, q⟩
theorem rd_append (h : H l = some (.lst xs)) (hz : xs.length < 100000) (q : Q .non (upd H l (.lst (xs ++ [y])))) : rAppend (.ref l) [y] H Q :=
  ⟨l, xs, y, rfl, rfl, h, Evl.sz_lt hz, q⟩
theorem rd_pop (h : H l = some (.lst (xs ++ [y]))) (q : Q y (upd H l (.lst xs))) : rPop (.ref l) [] H Q :=
  ⟨l, xs ++ [y], y, rfl, rfl, h, by rw [List.length_append, List.length_singleton, Nat.add_sub_cancel, List.getElem?_append_right (Nat.le_refl _), Nat.sub_self] <;> rfl, by
    rw [List.dropLast_concat]
    exact q⟩
theorem rd_popAt {k : Nat} {i : Int} (h : H l = some (.lst xs)) (e : i = (k : Int)) (hk : xs[k]? = some y) (hz : xs.length ≤ 100000) (q : Q y (upd H l (.lst (xs.eraseIdx k)))) : rPopAt (.ref l) [.int i] H Q := by
  have hk' : k < xs.length := (List.getElem?_eq_some_iff.mp hk).1
  refine ⟨l, xs, i, k, y, rfl, rfl, h, by omega, by omega, ?_, hk, q⟩
  subst e
  have z := seqIndex_of (k := (k : Int)) (n := xs.length) (Int.natCast_nonneg k) (by exact_mod_cast hk')
  simpa using z
theorem at_nat {ys : List V} {i : Int} {k : Nat} (e : i = (k : Int)) (h : ys[k]? = some y) : atI ys i = some y := by
  rw [e]
  exact atI_nat h
end
/-! ### the draws' deck read -/
theorem kv_text {x : Str} : kV (Sum.inr x) = V.str x := rfl
theorem deck_deep {d l : Addr} {s : Int} {H : Hp} (h : H d = some (.dK [(.inr "deep", .ref l), (.inr "state", .int s)])) : DGet H d (.str "deep") (some (.ref l)) :=
  DGet.k (k := Sum.inr "deep") h
theorem deck_state {d l : Addr} {s : Int} {H : Hp} (h : H d = some (.dK [(.inr "deep", .ref l), (.inr "state", .int s)])) : DGet H d (.str "state") (some (.int s)) :=
  DGet.k (k := Sum.inr "state") h
theorem deck_put {d l : Addr} {s t : Int} {H : Hp} (h : H d = some (.dK [(.inr "deep", .ref l), (.inr "state", .int s)])) :
    DPut H d (.str "state") (.int t) (upd H d (.dK [(.inr "deep", .ref l), (.inr "state", .int t)])) :=
  DPut.k (k := Sum.inr "state") (v := .int t) h (by show 2 < sizeLine; rw [sizeLine_eq]; omega)
end Ea
set_option Elab.async false
set_option linter.all false
set_option maxRecDepth 100000
set_option maxHeartbeats 4000000
/-! Comprehensions and loops among draws; texts of owners. -/
namespace Ea
open PySem PySem.Spec PyProof.Rows L2

/-- what a comprehension's walk asks, by its iterator -/
def LcR (g : TG) (tt : TT) (te : TE) (vs : List Nat) (σ : L2.St) (Q : VK) (J : It) (H1 : Hp) : Prop :=
  ∀ D, H1 D = none → ∃ W : Nat → Nat → Hp → Prop, (∃ m, W 0 m (upd H1 D (.lst []))) ∧ ∀ i m H, W i m H →
    (J.stop i H ∧ Q (.ref D) H) ∨
    (J.go i H ∧ ∃ Nx : Hp → Prop, (∀ H', Nx H' → ∃ m', m' < m ∧ W (i + 1) m' H') ∧
      ∀ x H', J.yld i H x H' → g x (wipe σ vs) H' fun σ2 H2 => wipe σ2 vs = wipe σ vs ∧ tt σ2 H2 fun b H3 =>
        if b = true then te σ2 H3 fun y H4 => ∃ acc, H4 D = some (.lst acc) ∧ acc.length < sizeLine ∧ Nx (upd H4 D (.lst (acc ++ [y]))) else Nx H3)
section
variable {K : PySem.W.Frag} {σ : L2.St} {H : Hp} {Q : VK} {QB : Bool → Hp → Prop} {g : TG} {tt : TT} {te tl : TE} {ta : TA} {vs : List Nat} {wi : TI} {R : It → Hp → Prop} {a b : Int}
theorem rd_lc (h : wi σ H (LcR g tt te vs σ Q)) : tLc wi g tt te vs σ H Q := h
theorem rd_iTup (h : tl σ H fun x H1 => ∃ a, x = .ref a ∧ (∃ xs, SqT K H1 a xs) ∧ R (Itt K a) H1) : iTup K tl σ H R := h
theorem rd_iList (h : tl σ H fun x H1 => ∃ a, x = .ref a ∧ (∃ xs, SqL K H1 a xs) ∧ R (Itl K a) H1) : iList K tl σ H R := h
theorem rd_iRng1 (h : ta σ H fun vs H1 => ∃ j : Int, vs = [.int j] ∧ -(2 ^ 62) ≤ j ∧ j < 2 ^ 62 ∧ R (Itr 0 j.toNat) H1) : iRng1 ta σ H R := h
theorem rd_rng1 (h1 : -(2 ^ 62) ≤ a) (h2 : a < 2 ^ 62) (h : R (Itr 0 a.toNat) H) : ∃ j : Int, ([.int a] : List V) = [.int j] ∧ -(2 ^ 62) ≤ j ∧ j < 2 ^ 62 ∧ R (Itr 0 j.toNat) H := ⟨a, rfl, h1, h2, h⟩
theorem rd_ref {p : Addr} {xs : List V} {P : Addr → Prop} (s : SqT K H p xs) (h : P p) : ∃ a, V.ref p = .ref a ∧ (∃ xs, SqT K H a xs) ∧ P a := ⟨p, rfl, ⟨xs, s⟩, h⟩
theorem rd_refL {p : Addr} {xs : List V} {P : Addr → Prop} (s : SqL K H p xs) (h : P p) : ∃ a, V.ref p = .ref a ∧ (∃ xs, SqL K H a xs) ∧ P a := ⟨p, rfl, ⟨xs, s⟩, h⟩
theorem rd_yes (h : QB true H) : tYes σ H QB := h
theorem rd_true {A B : Prop} (h : A) : if true = true then A else B := by
  rw [if_pos rfl]
  exact h
theorem rd_false {A B : Prop} (h : B) : if false = true then A else B := h
end

section
variable {d l : Addr} {K : PySem.W.Frag} {σ : L2.St} {H : Hp} {Q : VK} {tt : TT} {te : TE} {vs : List Nat} {j : Nat} {σx : V → L2.St} {a : Addr} {xs : List V}
/-- a turn of a comprehension among draws -/
abbrev Turn (d l : Addr) (H : Hp) (tt : TT) (te : TE) (σx : V → L2.St) (Pv : Nat → List V → Prop) (i : Nat) (x : V) : Prop :=
  ∀ (acc : List V) (H' : Hp) (N : VK) (S : Hp → Prop), Go d l H H' → Pv i acc →
    (∀ y H3, Go d l H' H3 → Pv (i + 1) (acc ++ [y]) → N y H3) → (∀ H3, Go d l H' H3 → Pv (i + 1) acc → S H3) →
    tt (σx x) H' fun b H2 => if b = true then te (σx x) H2 N else S H2
def Cg (d l : Addr) (H : Hp) (Pv : Nat → List V → Prop) (D : Addr) (i : Nat) (H' : Hp) : Prop :=
  ∃ acc, H D = none ∧ Go d l H H' ∧ H' D = some (.lst acc) ∧ acc.length ≤ i ∧ Pv i acc
theorem cg_start {Pv : Nat → List V → Prop} (hD : DeckB d l H) (h0 : Pv 0 []) {D : Addr} (e : H D = none) : Cg d l H Pv D 0 (upd H D (.lst [])) :=
  ⟨[], e, Go.new hD e, upd_same, Nat.le_refl _, h0⟩
theorem cg_turn {Pv : Nat → List V → Prop} {D : Addr} {i : Nat} {x : V} {H' : Hp} (hD : DeckB d l H) (hi : i < 100000) (ht : Turn d l H tt te σx Pv i x) (p : Cg d l H Pv D i H') :
    tt (σx x) H' fun b H3 => if b = true then te (σx x) H3 fun y H4 => ∃ acc, H4 D = some (.lst acc) ∧ acc.length < sizeLine ∧ Cg d l H Pv D (i + 1) (upd H4 D (.lst (acc ++ [y]))) else Cg d l H Pv D (i + 1) H3 := by
  obtain ⟨acc, e, g, ea, hl, hp⟩ := p
  obtain ⟨n1, n2⟩ := hD.off e
  refine ht acc H' _ _ g hp (fun y H3 g3 hp3 => ?_) fun H3 g3 hp3 => ?_
  · refine ⟨acc, g3.kp D _ n1 n2 ea, Evl.sz_lt (by omega), acc ++ [y], e, Go.mut (g.trans g3) hD e, upd_same, ?_, hp3⟩
    rw [List.length_append, List.length_singleton]
    omega
  · exact ⟨acc, e, g.trans g3, g3.kp D _ n1 n2 ea, by omega, hp3⟩
theorem lc_goT (Pv : Nat → List V → Prop) (hD : DeckB d l H) (hx : SqT K H a xs) (hz : xs.length ≤ 40000) (hσ : ∀ x, (wipe σ vs).set j (some x) = σx x) (hw : ∀ x, wipe (σx x) vs = wipe σ vs)
    (h0 : Pv 0 []) (hs : ∀ i x, xs[i]? = some x → Turn d l H tt te σx Pv i x)
    (hd : ∀ D acc H', Go d l H H' → H D = none → H' D = some (.lst acc) → Pv xs.length acc → Q (.ref D) H') : LcR (gName j) tt te vs σ Q (Itt K a) H := fun D hn =>
  lc_tup (xs := xs) (Cg d l H Pv D) (cg_start hD h0 hn) (fun i H' _ ⟨_, _, g, _⟩ => g.tup hD hx) (fun i x H' hi p => by
    rw [show gName j x (wipe σ vs) H' = fun N => N (σx x) H' from funext fun N => by rw [← hσ x] <;> rfl]
    refine ⟨hw x, ?_⟩
    have := (List.getElem?_eq_some_iff.mp hi).1
    exact cg_turn hD (by omega) (hs i x hi) p) fun H' p => by
    obtain ⟨acc, e, g, ea, _, hp⟩ := p
    exact hd D acc H' g e ea hp
theorem lc_goL (Pv : Nat → List V → Prop) (hD : DeckB d l H) (hx : ∀ H', Go d l H H' → SqL K H' a xs) (hz : xs.length ≤ 40000) (hσ : ∀ x, (wipe σ vs).set j (some x) = σx x) (hw : ∀ x, wipe (σx x) vs = wipe σ vs)
    (h0 : Pv 0 []) (hs : ∀ i x, xs[i]? = some x → Turn d l H tt te σx Pv i x)
    (hd : ∀ D acc H', Go d l H H' → H D = none → H' D = some (.lst acc) → Pv xs.length acc → Q (.ref D) H') : LcR (gName j) tt te vs σ Q (Itl K a) H := fun D hn =>
  lc_list (xs := xs) (Cg d l H Pv D) (cg_start hD h0 hn) (fun i H' _ ⟨_, _, g, _⟩ => hx H' g) (fun i x H' hi p => by
    rw [show gName j x (wipe σ vs) H' = fun N => N (σx x) H' from funext fun N => by rw [← hσ x] <;> rfl]
    refine ⟨hw x, ?_⟩
    have := (List.getElem?_eq_some_iff.mp hi).1
    exact cg_turn hD (by omega) (hs i x hi) p) fun H' p => by
    obtain ⟨acc, e, g, ea, _, hp⟩ := p
    exact hd D acc H' g e ea hp
theorem lc_goR {lo : Int} {n : Nat} (Pv : Nat → List V → Prop) (hD : DeckB d l H) (hz : n ≤ 40000) (hσ : ∀ x, (wipe σ vs).set j (some x) = σx x) (hw : ∀ x, wipe (σx x) vs = wipe σ vs)
    (h0 : Pv 0 []) (hs : ∀ i, i < n → Turn d l H tt te σx Pv i (.int (lo + i)))
    (hd : ∀ D acc H', Go d l H H' → H D = none → H' D = some (.lst acc) → Pv n acc → Q (.ref D) H') : LcR (gName j) tt te vs σ Q (Itr lo n) H := fun D hn =>
  lc_range (Cg d l H Pv D) (cg_start hD h0 hn) (fun i H' hi p => by
    rw [show gName j (.int (lo + i)) (wipe σ vs) H' = fun N => N (σx (.int (lo + i))) H' from funext fun N => by rw [← hσ (.int (lo + i))] <;> rfl]
    exact ⟨hw _, cg_turn hD (by omega) (hs i hi) p⟩) fun H' p => by
    obtain ⟨acc, e, g, ea, _, hp⟩ := p
    exact hd D acc H' g e ea hp
end

/-! ### texts of "e" and "s" -/
def OwnS (n : Nat) (z : Str) : Prop := z.length = n ∧ ∀ c ∈ z.cps.toList, c = 101 ∨ c = 115
theorem folded_mem (z : Array Nat) : ∀ (n : Nat) (acc : Array Nat) (c : Nat), c ∈ ((List.replicate n z).foldl (· ++ ·) acc).toList → c ∈ acc.toList ∨ c ∈ z.toList
  | 0, acc, c, h => .inl h
  | n + 1, acc, c, h => by
    rw [List.replicate_succ, List.foldl_cons] at h
    rcases folded_mem z n _ c h with h | h
    · rw [Array.toList_append] at h
      exact List.mem_append.mp h
    · exact .inr h
theorem own_rep {z : Str} {k : Nat} {n : Int} (h : OwnS k z) (h0 : 0 ≤ n) : OwnS (n.toNat * k) (repS z n) := by
  refine ⟨by rw [repS_length, h.1], fun c hc => ?_⟩
  rcases folded_mem z.cps n.toNat #[] c hc with q | q
  · simp at q
  · exact h.2 c q
theorem own_add {y z : Str} {k m : Nat} (h1 : OwnS k y) (h2 : OwnS m z) : OwnS (k + m) (y ++ z) := by
  refine ⟨by rw [Str.length_append, h1.1, h2.1], fun c hc => ?_⟩
  have e : (y ++ z).cps.toList = y.cps.toList ++ z.cps.toList := by
    rw [Str.cps_append, Array.toList_append]
  rw [e] at hc
  exact (List.mem_append.mp hc).elim (h1.2 c) (h2.2 c)
theorem own_cut {z : Str} {k n : Nat} (h : OwnS k z) (hn : n ≤ k) : OwnS n (cutS z none (some (n : Int))) := by
  have e1 : HT.sIx z.length 0 none = 0 := HT.sIx_none _ _
  have e2 : HT.sIx z.length z.length (some (n : Int)) = min n z.length := HT.sIx_nat _ _ _
  refine ⟨?_, fun c hc => h.2 c ?_⟩
  · show (cutS z none (some (n : Int))).cps.size = n
    unfold cutS
    rw [e1, e2, List.drop_zero, List.size_toArray, List.length_take, Nat.sub_zero]
    have e3 : z.cps.toList.length = k := h.1
    have e4 : z.length = k := h.1
    rw [e3, e4]
    omega
  · unfold cutS at hc
    rw [List.toList_toArray] at hc
    exact List.mem_of_mem_drop (List.mem_of_mem_take hc)
theorem own_e : OwnS 1 "e" := ⟨rfl, by decide⟩
theorem own_s : OwnS 1 "s" := ⟨rfl, by decide⟩
theorem own_fold : ∀ (ys : List Str) (acc : Array Nat) (m : Nat), (∀ y ∈ ys, OwnS 1 y) → OwnS m ⟨acc⟩ →
    OwnS (m + ys.length) ⟨ys.foldl (fun acc p => acc ++ (Str.ofString "").cps ++ p.cps) acc⟩
  | [], acc, m, _, h => h
  | y :: r, acc, m, hy, h => by
    rw [List.foldl_cons, List.length_cons, show m + (r.length + 1) = (m + 1) + r.length by omega]
    refine own_fold r _ (m + 1) (fun z hz => hy z (List.mem_cons_of_mem _ hz)) ?_
    have e : (⟨acc ++ (Str.ofString "").cps ++ y.cps⟩ : Str) = (⟨acc⟩ : Str) ++ y := by
      show (⟨acc ++ #[] ++ y.cps⟩ : Str) = _
      rw [Array.append_empty]
      rfl
    rw [e]
    exact own_add h (hy y List.mem_cons_self)
theorem own_join {ys : List Str} (h : ∀ y ∈ ys, OwnS 1 y) : OwnS ys.length (Txt.join "" ys) := by
  cases ys with
  | nil => exact ⟨rfl, by decide⟩
  | cons y r =>
    have z := own_fold r y.cps 1 (fun z hz => h z (List.mem_cons_of_mem _ hz)) (h y List.mem_cons_self)
    rw [List.length_cons, Nat.add_comm]
    exact z
theorem own_sum {ys : List Str} (h : ∀ y ∈ ys, OwnS 1 y) : (ys.map (·.length)).sum = ys.length := by
  induction ys with
  | nil => rfl
  | cons y r ih =>
    rw [List.map_cons, List.sum_cons, ih fun z hz => h z (List.mem_cons_of_mem _ hz), (h y List.mem_cons_self).1, List.length_cons]
    omega
/-! ### + of texts, in -/
def rAddSt : R2 := fun x y H Q => ∃ i j, x = .str i ∧ y = .str j ∧ i.length + j.length ≤ sizeLine ∧ Q (.str (i ++ j)) H
theorem op_addSt {X : Cx} : OpR X (binaryOp .Add) rAddSt := op_add_str
section
variable {K : PySem.W.Frag} {H : Hp} {Q : VK} {a : Int} {p : Addr} {ns : List Int} {y z : Str}
theorem rd_addSt (hz : y.length + z.length ≤ sizeLine) (h : Q (.str (y ++ z)) H) : rAddSt (.str y) (.str z) H Q := ⟨y, z, rfl, rfl, hz, h⟩
theorem flat_ints : ∀ ns : List Int, (ns.map V.int).all flatV = true
  | [] => rfl
  | _ :: r => flat_ints r
theorem inV_ints (a : Int) : ∀ ns : List Int, inV (.int a) (ns.map V.int) = decide (a ∈ ns)
  | [] => rfl
  | n :: r => by
    show ((n == a) || inV (.int a) (r.map V.int)) = _
    rw [inV_ints a r]
    by_cases h : n = a
    · subst h
      simp
    · have h' : ¬ a = n := fun e => h e.symm
      have e1 : (n == a) = false := beq_eq_false_iff_ne.mpr h
      rw [e1, Bool.false_or]
      simp [h']
theorem rd_inT (s : SqT K H p (ns.map V.int)) (h : Q (.bl (decide (a ∈ ns))) H) : rIn K false (.int a) (.ref p) H Q :=
  ⟨p, ns.map V.int, rfl, .inr s, rfl, flat_ints ns, by rw [inV_ints]; exact h⟩
theorem rd_inL (s : SqL K H p (ns.map V.int)) (h : Q (.bl (decide (a ∈ ns))) H) : rIn K false (.int a) (.ref p) H Q :=
  ⟨p, ns.map V.int, rfl, .inl s, rfl, flat_ints ns, by rw [inV_ints]; exact h⟩
theorem rd_notInT (s : SqT K H p (ns.map V.int)) (h : Q (.bl (!decide (a ∈ ns))) H) : rIn K true (.int a) (.ref p) H Q :=
  ⟨p, ns.map V.int, rfl, .inr s, rfl, flat_ints ns, by rw [inV_ints]; exact h⟩
theorem rd_notInL (s : SqL K H p (ns.map V.int)) (h : Q (.bl (!decide (a ∈ ns))) H) : rIn K true (.int a) (.ref p) H Q :=
  ⟨p, ns.map V.int, rfl, .inl s, rfl, flat_ints ns, by rw [inV_ints]; exact h⟩
end
/-! ### join -/
def rJoin (K : PySem.W.Frag) : V → List V → Hp → VK → Prop := fun x xs H Q =>
  ∃ (a : Str) (p : Addr) (ys : List Str), x = .str a ∧ xs = [.ref p] ∧ (SqL K H p (ys.map V.str) ∨ SqT K H p (ys.map V.str)) ∧
    (ys.map (·.length)).sum + ys.length * a.length ≤ 16777216 ∧ Q (.str (Txt.join a ys)) H
section
variable {X : Cx} {o e : Expr} {to te : TE} {apos pos : Pos}
theorem pe_joinN (ho : PE X o to) (he : PE X e te) (hs : starEach [e] X.env = [(false, eval e X.env)] := by rfl)
    (hbase : attributeBase o "join" X.env (eval o X.env) = eval o X.env := by rfl) (hline : (apos.endLine == pos.line) = true := by rfl) :
    PE X (.Call (.Attribute o "join" apos) [e] [] pos) (tM1 (rJoin X.K) to te) := pe_join ho he hs hbase hline
end
section
variable {K : PySem.W.Frag} {σ : L2.St} {H : Hp} {Q : VK} {to te : TE} {r : V → List V → Hp → VK → Prop} {z : Str} {P : Prop}
theorem rd_m1 (h : to σ H fun x H1 => (∃ a, x = .str a) ∧ te σ H1 fun y H2 => r x [y] H2 Q) : tM1 r to te σ H Q := h
theorem rd_isS (h : P) : (∃ a, V.str z = .str a) ∧ P := ⟨⟨z, rfl⟩, h⟩
theorem rd_join {p : Addr} {ys : List Str} (s : SqL K H p (ys.map V.str)) (hz : (ys.map (·.length)).sum + ys.length * z.length ≤ 16777216) (h : Q (.str (Txt.join z ys)) H) : rJoin K (.str z) [.ref p] H Q :=
  ⟨z, p, ys, rfl, rfl, .inl s, hz, h⟩
theorem rd_mulS {n : Int} (h0 : 0 ≤ n) (h1 : n ≤ 1000) (h2 : z.length ≤ 1000) (h3 : 1 ≤ z.length) (h : Q (.str (repS z n)) H) : rMulS (.str z) (.int n) H Q := ⟨z, n, rfl, rfl, h0, h1, h2, h3, h⟩
theorem rd_addS {y : Str} (hz : y.length + z.length ≤ sizeLine) (h : Q (.str (y ++ z)) H) : (∃ i j, V.str y = .str i ∧ V.str z = .str j ∧ i.length + j.length ≤ sizeLine ∧ Q (.str (i ++ j)) H) := ⟨y, z, rfl, rfl, hz, h⟩
theorem rd_slS {lo hi : Option Int} (hz : z.length ≤ sizeLine) (h : Q (.str (cutS z lo hi)) H) : rSlS (.str z) lo hi H Q := ⟨z, rfl, hz, h⟩
end
end Ea
set_option Elab.async false
set_option linter.all false
set_option maxRecDepth 100000
set_option maxHeartbeats 4000000
/-! Slices, sums of tuples, sorted lists of ints, ranges as lists; rows of literals. -/
namespace Ea
open PySem PySem.Spec PyProof.Rows L2

/-! ### slices -/
theorem take_min {α : Type} (xs : List α) (k : Nat) : xs.take (min k xs.length) = xs.take k := by
  by_cases h : k ≤ xs.length
  · rw [Nat.min_eq_left h]
  · rw [Nat.min_eq_right (by omega), List.take_of_length_le (Nat.le_refl _), List.take_of_length_le (by omega)]
theorem drop_min {α : Type} (xs : List α) (k : Nat) : xs.drop (min k xs.length) = xs.drop k := by
  by_cases h : k ≤ xs.length
  · rw [Nat.min_eq_left h]
  · rw [Nat.min_eq_right (by omega), List.drop_of_length_le (Nat.le_refl _), List.drop_of_length_le (by omega)]
section
variable {ns : List Int} {xs : List V} {a b : Int}
theorem sIx_int (n e : Nat) (h : 0 ≤ a) : HT.sIx n e (some a) = min a.toNat n := by
  have z := HT.sIx_nat n e a.toNat
  rw [Int.toNat_of_nonneg h] at z
  exact z
theorem cut_take (h : 0 ≤ b) : cutV xs none (some b) = xs.take b.toNat := by
  unfold cutV
  rw [HT.sIx_none, sIx_int _ _ h, List.drop_zero, Nat.sub_zero, take_min]
theorem cut_drop (h : 0 ≤ a) : cutV xs (some a) none = xs.drop a.toNat := by
  unfold cutV
  rw [HT.sIx_none, sIx_int _ _ h, drop_min]
  exact List.take_of_length_le (by rw [List.length_drop]; omega)
theorem cut_mid (h : 0 ≤ a) (h2 : 0 ≤ b) : cutV xs (some a) (some b) = (xs.drop a.toNat).take (b.toNat - a.toNat) := by
  unfold cutV
  rw [sIx_int _ _ h, sIx_int _ _ h2, drop_min]
  by_cases c : b.toNat ≤ xs.length
  · rw [Nat.min_eq_left c]
    by_cases c2 : a.toNat ≤ xs.length
    · rw [Nat.min_eq_left c2]
    · rw [List.drop_of_length_le (by omega), List.take_nil, List.take_nil]
  · rw [Nat.min_eq_right (by omega)]
    by_cases c2 : a.toNat ≤ xs.length
    · rw [Nat.min_eq_left c2, List.take_of_length_le (by rw [List.length_drop]; omega), List.take_of_length_le (by rw [List.length_drop]; omega)]
    · rw [List.drop_of_length_le (by omega), List.take_nil, List.take_nil]
theorem cut_whole {lo hi : Option Int} (h : HT.sIx xs.length 0 lo = 0 ∧ HT.sIx xs.length xs.length hi = xs.length) : cutV xs lo hi = xs := by
  unfold cutV
  rw [h.1, h.2, List.drop_zero, Nat.sub_zero]
  exact List.take_of_length_le (Nat.le_refl _)
end
section
variable {d l : Addr} {K : PySem.W.Frag} {σ : L2.St} {H H' : Hp} {Q : VK} {p p2 : Addr} {xs ys : List V} {lo hi : Option Int} {ns : List Int} {a b : Int}
theorem Go.ex (e : Evl.Ex H H') (h : DeckB d l H) : Go d l H H' := by
  obtain ⟨ns, s, e1, e2, r⟩ := h
  exact ⟨⟨ns, s, e _ _ e1, e _ _ e2, r⟩, fun a o _ _ q => e a o q⟩
theorem rd_slT (s : SqT K H p xs) (h : ∀ (q : Addr) (H' : Hp), Evl.Ex H H' → SqT K H' q (cutV xs lo hi) → Q (.ref q) H') : rSlA K (.ref p) lo hi H Q :=
  ⟨p, xs, rfl, s, fun e => h p H (Evl.Ex.refl H) (by rw [cut_whole e]; exact s), fun _ q hq => h q _ (Evl.Ex.new hq) (SqT.of upd_same)⟩
theorem rd_slL (s : SqL K H p xs) (h : ∀ q, H q = none → Q (.ref q) (upd H q (.lst (cutV xs lo hi)))) : rSlL K (.ref p) lo hi H Q := ⟨p, xs, rfl, s, h⟩
theorem rd_catT (s : SqT K H p xs) (s2 : SqT K H p2 ys) (hz : xs.length + ys.length ≤ sizeLine)
    (h : ∀ (q : Addr) (H' : Hp), Evl.Ex H H' → SqT K H' q (xs ++ ys) → Q (.ref q) H') : rCatA K (.ref p) (.ref p2) H Q := by
  refine ⟨p, p2, xs, ys, rfl, rfl, s, s2, hz, fun e => ?_, fun _ e => ?_, fun _ _ q hq => h q _ (Evl.Ex.new hq) (SqT.of upd_same)⟩
  · subst e
    exact h p2 H (Evl.Ex.refl H) s2
  · subst e
    exact h p H (Evl.Ex.refl H) (by rw [List.append_nil]; exact s)
theorem rd_catL (s : H p = some (.lst xs)) (s2 : H p2 = some (.lst ys)) (hz : xs.length + ys.length ≤ sizeLine) (h : ∀ q, H q = none → Q (.ref q) (upd H q (.lst (xs ++ ys)))) : rCat (.ref p) (.ref p2) H Q :=
  ⟨p, p2, xs, ys, rfl, rfl, s, s2, hz, h⟩
theorem rd_sorted (s : SqL K H p (ns.map V.int)) (h : ∀ (ms : List Int) (q : Addr), ms.Perm ns → ms.Pairwise (· ≤ ·) → H q = none → Q (.ref q) (upd H q (.lst (ms.map V.int)))) : rSortedI K [.ref p] H Q :=
  ⟨p, ns, rfl, s, h⟩
def rgI (a b : Int) : List Int := (List.range (b - a).toNat).map fun i => a + (i : Nat)
theorem rgV_ints (a b : Int) : rgV a b = (rgI a b).map V.int := by
  unfold rgV rgI
  rw [List.map_map]
  rfl
theorem rd_listRg {te : L2.St → Hp → (Int → Int → Hp → Prop) → Prop} (h : te σ H fun a b H1 => RgOk a b ∧ ∀ q, H1 q = none → Q (.ref q) (upd H1 q (.lst (rgV a b)))) : tLstRg te σ H Q := h
theorem rd_rg2 {ta tb : TE} {R : Int → Int → Hp → Prop} (h : ta σ H fun x H1 => tb σ H1 fun y H2 => ∃ i j, x = .int i ∧ y = .int j ∧ R i j H2) : tRg2 ta tb σ H R := h
theorem rd_rgk {R : Int → Int → Prop} (h : R a b) : ∃ i j, V.int a = .int i ∧ V.int b = .int j ∧ R i j := ⟨a, b, rfl, rfl, h⟩
theorem rgI_mem {a b x : Int} : x ∈ rgI a b ↔ a ≤ x ∧ x < b := by
  unfold rgI
  rw [List.mem_map]
  constructor
  · rintro ⟨i, hi, rfl⟩
    have := List.mem_range.mp hi
    omega
  · rintro ⟨h1, h2⟩
    exact ⟨(x - a).toNat, List.mem_range.mpr (by omega), by omega⟩
theorem rgI_lt (a b : Int) : (rgI a b).Pairwise (· < ·) := by
  unfold rgI
  rw [List.pairwise_map]
  exact List.pairwise_lt_range.imp fun {i j} h => by omega
theorem rgI_length (a b : Int) : (rgI a b).length = (b - a).toNat := by
  unfold rgI
  rw [List.length_map, List.length_range]
end
theorem nodup_of_lt {ns : List Int} (h : ns.Pairwise (· < ·)) : ns.Nodup := h.imp fun {a b} q => by omega
theorem lt_of_sorted {ns : List Int} (h : ns.Pairwise (· ≤ ·)) (hn : ns.Nodup) : ns.Pairwise (· < ·) := by
  refine (h.and hn).imp fun {a b} q => ?_
  obtain ⟨q1, q2⟩ := q
  have q2 : a ≠ b := q2
  omega

/-! ### rows -/
/-- a clause of n letters -/
def Row (n : Nat) (ns : List Int) : Prop := ns.Pairwise (fun x y => x.natAbs < y.natAbs) ∧ ∀ x ∈ ns, 1 ≤ x.natAbs ∧ x.natAbs ≤ n
theorem Row.nil {n : Nat} : Row n [] := ⟨List.Pairwise.nil, nofun⟩
theorem Row.sub {n : Nat} {xs ys : List Int} (h : Row n ys) (s : xs.Sublist ys) : Row n xs := ⟨h.1.sublist s, fun x hx => h.2 x (s.subset hx)⟩
theorem Row.abs {n : Nat} {xs ys : List Int} (h : Row n ys) (e : xs.map Int.natAbs = ys.map Int.natAbs) : Row n xs := by
  have h1 : (ys.map Int.natAbs).Pairwise (· < ·) := by
    rw [List.pairwise_map]
    exact h.1
  rw [← e, List.pairwise_map] at h1
  refine ⟨h1, fun x hx => ?_⟩
  have : x.natAbs ∈ ys.map Int.natAbs := by
    rw [← e]
    exact List.mem_map_of_mem hx
  obtain ⟨y, hy, e2⟩ := List.mem_map.mp this
  rw [← e2]
  exact h.2 y hy
theorem Row.of_letters {n : Nat} {ns : List Int} (h : ns.Pairwise (· < ·)) (hm : ∀ x ∈ ns, 1 ≤ x ∧ x ≤ (n : Int)) : Row n ns := by
  refine ⟨?_, fun x hx => ?_⟩
  · refine List.Pairwise.imp_of_mem (fun {a b} ha hb q => ?_) h
    have := hm a ha
    have := hm b hb
    omega
  · have := hm x hx
    omega
theorem Row.length {n : Nat} : ∀ {ns : List Int}, Row n ns → ns.length ≤ n := by
  have key : ∀ (ns : List Int) (k : Nat), ns.Pairwise (fun x y => x.natAbs < y.natAbs) → (∀ x ∈ ns, k < x.natAbs ∧ x.natAbs ≤ n) → k ≤ n → ns.length + k ≤ n := by
    intro ns
    induction ns with
    | nil => intro k _ _ h; simpa using h
    | cons x r ih =>
      intro k hp hm hk
      obtain ⟨h1, h2⟩ := List.pairwise_cons.mp hp
      have hx := hm x List.mem_cons_self
      have z := ih x.natAbs h2 (fun y hy => ⟨h1 y hy, (hm y (List.mem_cons_of_mem _ hy)).2⟩) hx.2
      rw [List.length_cons]
      omega
  intro ns h
  have z := key ns 0 h.1 (fun x hx => ⟨by have := (h.2 x hx).1; omega, (h.2 x hx).2⟩) (Nat.zero_le _)
  omega
end Ea
set_option Elab.async false
set_option linter.all false
set_option maxHeartbeats 4000000
/-! Rows dropped, clashing and met: plain lists. -/
namespace Ea
/-- without what holds at the end -/
def dropTail (f : Int → Bool) (ns : List Int) : List Int := (ns.reverse.dropWhile f).reverse
theorem dropTail_nil (f : Int → Bool) : dropTail f [] = [] := rfl
theorem dropTail_snoc_pos {f : Int → Bool} {ns : List Int} {x : Int} (h : f x = true) : dropTail f (ns ++ [x]) = dropTail f ns := by
  unfold dropTail
  rw [List.reverse_append, List.reverse_singleton, List.singleton_append, List.dropWhile_cons, if_pos h]
theorem dropTail_snoc_neg {f : Int → Bool} {ns : List Int} {x : Int} (h : f x = false) : dropTail f (ns ++ [x]) = ns ++ [x] := by
  unfold dropTail
  rw [List.reverse_append, List.reverse_singleton, List.singleton_append, List.dropWhile_cons, if_neg (by rw [h]; decide), List.reverse_cons, List.reverse_reverse]
theorem take_snoc {ns : List Int} {k : Nat} (h : k < ns.length) : ns.take (k + 1) = ns.take k ++ [ns[k]] := by
  rw [List.take_add_one, List.getElem?_eq_getElem h]
  rfl
theorem dropTail_idem (f : Int → Bool) (ns : List Int) : dropTail f (dropTail f ns) = dropTail f ns := by
  rcases List.eq_nil_or_concat (dropTail f ns) with e | ⟨m, z, e⟩
  · rw [e]
    rfl
  · have e : dropTail f ns = m ++ [z] := by simpa using e
    rw [e]
    refine dropTail_snoc_neg ?_
    have h : ns.reverse.dropWhile f = z :: m.reverse := by
      have h2 := congrArg List.reverse e
      unfold dropTail at h2
      rw [List.reverse_reverse, List.reverse_append] at h2
      simpa using h2
    have h3 := List.head?_dropWhile_not f ns.reverse
    rw [h] at h3
    simpa using h3
theorem dropTail_sub (f : Int → Bool) (ns : List Int) : (dropTail f ns).Sublist ns := by
  have h : (ns.reverse.dropWhile f).Sublist ns.reverse := List.dropWhile_sublist f
  have h2 := h.reverse
  rw [List.reverse_reverse] at h2
  exact h2
/-- the greatest letter of the other party's -/
def lastOf (f : Int → Bool) (ns : List Int) : List Int := (ns.filter fun x => !f x).map fun x => (x.natAbs : Int)
theorem short_eq {n : Nat} {f : Int → Bool} {m : Int} : ∀ {ns : List Int}, Row n ns → (m ∈ lastOf f ns ++ [0]) → (∀ y ∈ lastOf f ns ++ [0], y ≤ m) →
    (ns.filter fun x => !f x || decide ((x.natAbs : Int) < m)) = dropTail f ns := by
  intro ns
  generalize hk : ns.length = k
  induction k generalizing ns with
  | zero =>
    intro _ _ _
    rw [List.length_eq_zero_iff.mp hk]
    rfl
  | succ k ih =>
    intro hr hm hb
    obtain ⟨r, x, e⟩ : ∃ r x, ns = r ++ [x] := by
      rcases List.eq_nil_or_concat ns with e | ⟨r, x, e⟩
      · rw [e] at hk
        cases hk
      · exact ⟨r, x, by simpa using e⟩
    subst e
    have hlt : ∀ y ∈ r, y.natAbs < x.natAbs := fun y hy => (List.pairwise_append.mp hr.1).2.2 y hy x List.mem_cons_self
    have hx1 := (hr.2 x (List.mem_append_right _ List.mem_cons_self)).1
    have hr' : Row n r := hr.sub (List.sublist_append_left _ _)
    rw [List.filter_append]
    cases hf : f x with
    | false =>
      rw [dropTail_snoc_neg hf]
      have e2 : ([x].filter fun x => !f x || decide ((x.natAbs : Int) < m)) = [x] := by simp [hf]
      rw [e2]
      have hxm : (x.natAbs : Int) ≤ m := hb _ (List.mem_append_left _ (by
        unfold lastOf
        exact List.mem_map.mpr ⟨x, List.mem_filter.mpr ⟨List.mem_append_right _ List.mem_cons_self, by rw [hf]; rfl⟩, rfl⟩))
      congr 1
      refine List.filter_eq_self.mpr fun y hy => ?_
      have := hlt y hy
      rw [Bool.or_eq_true]
      exact .inr (decide_eq_true (by omega))
    | true =>
      rw [dropTail_snoc_pos hf]
      have el : lastOf f (r ++ [x]) = lastOf f r := by
        unfold lastOf
        rw [List.filter_append]
        have : ([x].filter fun x => !f x) = [] := by simp [hf]
        rw [this, List.append_nil]
      rw [el] at hm hb
      have hxm : ¬ (x.natAbs : Int) < m := by
        rcases List.mem_append.mp hm with h | h
        · obtain ⟨y, hy, e⟩ := List.mem_map.mp h
          have := hlt y (List.mem_filter.mp hy).1
          omega
        · rw [List.mem_singleton.mp h]
          omega
      have e2 : ([x].filter fun x => !f x || decide ((x.natAbs : Int) < m)) = [] := by simp [hf, hxm]
      rw [e2, List.append_nil]
      refine ih (ns := r) ?_ hr' hm hb
      rw [List.length_append, List.length_singleton] at hk
      omega

/-! ### letters in which rows clash -/
def against (one other : List Int) : List Int := (one.filter fun x => decide (-x ∈ other)).map fun x => (x.natAbs : Int)
theorem against_mem {one other : List Int} {k : Int} : k ∈ against one other ↔ ∃ x ∈ one, -x ∈ other ∧ (x.natAbs : Int) = k := by
  unfold against
  rw [List.mem_map]
  constructor
  · rintro ⟨x, hx, e⟩
    have h := List.mem_filter.mp hx
    exact ⟨x, h.1, of_decide_eq_true h.2, e⟩
  · rintro ⟨x, hx, h, e⟩
    exact ⟨x, List.mem_filter.mpr ⟨hx, decide_eq_true h⟩, e⟩
theorem against_lt {n : Nat} {one other : List Int} (h : Row n one) : (against one other).Pairwise (· < ·) := by
  unfold against
  rw [List.pairwise_map]
  exact (h.1.sublist List.filter_sublist).imp fun {a b} q => by omega
theorem eq_of_lt : ∀ {xs ys : List Int}, xs.Pairwise (· < ·) → ys.Pairwise (· < ·) → (∀ x, x ∈ xs ↔ x ∈ ys) → xs = ys
  | [], [], _, _, _ => rfl
  | [], y :: r, _, _, h => absurd ((h y).mpr List.mem_cons_self) nofun
  | x :: r, [], _, _, h => absurd ((h x).mp List.mem_cons_self) nofun
  | x :: r, y :: t, h1, h2, h => by
    obtain ⟨a1, a2⟩ := List.pairwise_cons.mp h1
    obtain ⟨b1, b2⟩ := List.pairwise_cons.mp h2
    have e : x = y := by
      rcases List.mem_cons.mp ((h x).mp List.mem_cons_self) with e | e
      · exact e
      · rcases List.mem_cons.mp ((h y).mpr List.mem_cons_self) with e2 | e2
        · exact e2.symm
        · have := a1 y e2
          have := b1 x e
          omega
    subst e
    congr 1
    refine eq_of_lt a2 b2 fun z => ⟨fun hz => ?_, fun hz => ?_⟩
    · rcases List.mem_cons.mp ((h z).mp (List.mem_cons_of_mem _ hz)) with e | e
      · have := a1 z hz
        omega
      · exact e
    · rcases List.mem_cons.mp ((h z).mpr (List.mem_cons_of_mem _ hz)) with e | e
      · have := b1 z hz
        omega
      · exact e
theorem against_comm {n m : Nat} {one other : List Int} (h1 : Row n one) (h2 : Row m other) : against other one = against one other := by
  refine eq_of_lt (against_lt h2) (against_lt h1) fun k => ?_
  rw [against_mem, against_mem]
  constructor
  · rintro ⟨x, hx, hn, e⟩
    exact ⟨-x, hn, by rw [Int.neg_neg]; exact hx, by omega⟩
  · rintro ⟨x, hx, hn, e⟩
    exact ⟨-x, hn, by rw [Int.neg_neg]; exact hx, by omega⟩
theorem against_pos {n : Nat} {one other : List Int} (h : Row n one) {k : Int} (hk : k ∈ against one other) : 1 ≤ k ∧ k ≤ n := by
  obtain ⟨x, hx, _, e⟩ := against_mem.mp hk
  have := h.2 x hx
  omega

/-! ### rows that meet -/
def IsJoin (one other r : List Int) : Prop := r.Pairwise (fun x y => x.natAbs < y.natAbs) ∧ ∀ x, x ∈ r ↔ (x ∈ one ∨ x ∈ other) ∧ (x.natAbs : Int) ∉ against one other
theorem eq_of_asc : ∀ {xs ys : List Int}, xs.Pairwise (fun x y => x.natAbs < y.natAbs) → ys.Pairwise (fun x y => x.natAbs < y.natAbs) → (∀ x, x ∈ xs ↔ x ∈ ys) → xs = ys
  | [], [], _, _, _ => rfl
  | [], y :: r, _, _, h => absurd ((h y).mpr List.mem_cons_self) nofun
  | x :: r, [], _, _, h => absurd ((h x).mp List.mem_cons_self) nofun
  | x :: r, y :: t, h1, h2, h => by
    obtain ⟨a1, a2⟩ := List.pairwise_cons.mp h1
    obtain ⟨b1, b2⟩ := List.pairwise_cons.mp h2
    have e : x = y := by
      rcases List.mem_cons.mp ((h x).mp List.mem_cons_self) with e | e
      · exact e
      · rcases List.mem_cons.mp ((h y).mpr List.mem_cons_self) with e2 | e2
        · exact e2.symm
        · have := a1 y e2
          have := b1 x e
          omega
    subst e
    congr 1
    refine eq_of_asc a2 b2 fun z => ⟨fun hz => ?_, fun hz => ?_⟩
    · rcases List.mem_cons.mp ((h z).mp (List.mem_cons_of_mem _ hz)) with e | e
      · have := a1 z hz
        rw [e] at this
        omega
      · exact e
    · rcases List.mem_cons.mp ((h z).mpr (List.mem_cons_of_mem _ hz)) with e | e
      · have := b1 z hz
        rw [e] at this
        omega
      · exact e
theorem IsJoin.eq {one other r t : List Int} (h1 : IsJoin one other r) (h2 : IsJoin one other t) : r = t :=
  eq_of_asc h1.1 h2.1 fun x => (h1.2 x).trans (h2.2 x).symm
theorem IsJoin.comm {n m : Nat} {one other r : List Int} (a : Row n one) (b : Row m other) (h : IsJoin other one r) : IsJoin one other r :=
  ⟨h.1, fun x => by rw [h.2 x, against_comm a b, or_comm]⟩
theorem IsJoin.row {n : Nat} {one other r : List Int} (a : Row n one) (b : Row n other) (h : IsJoin one other r) : Row n r :=
  ⟨h.1, fun x hx => ((h.2 x).mp hx).1.elim (a.2 x) (b.2 x)⟩
/-- literals of one letter in both are the same, where they do not clash in it -/
theorem same_of {n : Nat} {one other : List Int} (a : Row n one) (b : Row n other) {x y : Int} (hx : x ∈ one ∨ x ∈ other) (hy : y ∈ one ∨ y ∈ other) (e : x.natAbs = y.natAbs)
    (hn : (x.natAbs : Int) ∉ against one other) : x = y := by
  have key : ∀ {xs : List Int}, Row n xs → x ∈ xs → y ∈ xs → x = y := fun {xs} h h1 h2 => by
    obtain ⟨i, hi, e1⟩ := List.mem_iff_getElem.mp h1
    obtain ⟨j, hj, e2⟩ := List.mem_iff_getElem.mp h2
    have hp := List.pairwise_iff_getElem.mp h.1
    rcases Nat.lt_trichotomy i j with q | q | q
    · have := hp i j hi hj q
      rw [e1, e2] at this
      omega
    · subst q
      rw [← e1, ← e2]
    · have := hp j i hj hi q
      rw [e1, e2] at this
      omega
  have opp : x = y ∨ y = -x := by omega
  rcases opp with q | q
  · exact q
  · subst q
    rcases hx with hx | hx <;> rcases hy with hy | hy
    · exact key a hx hy
    · exact absurd (against_mem.mpr ⟨x, hx, hy, rfl⟩) hn
    · exact absurd (against_mem.mpr ⟨-x, hy, by rw [Int.neg_neg]; exact hx, by omega⟩) hn
    · exact key b hx hy
end Ea
set_option Elab.async false
set_option linter.all false
set_option maxRecDepth 100000
set_option maxHeartbeats 4000000
/-! Comprehensions over ints where nothing is changed; greatest, texts' places. -/
namespace Ea
open PySem PySem.Spec PyProof.Rows L2
section
variable {K : PySem.W.Frag} {σ : L2.St} {H : Hp} {Q : VK} {tt : TT} {te : TE} {vs : List Nat} {j : Nat} {σx : V → L2.St} {a : Addr} {ns : List Int} {f : Int → Bool} {g : Int → V}
/-- a turn: f tells whether x gives, g what -/
abbrev TurnF (H : Hp) (tt : TT) (te : TE) (σx : V → L2.St) (f : Int → Bool) (g : Int → V) (x : Int) : Prop :=
  ∀ (H' : Hp) (N : VK) (S : Hp → Prop), Evl.Ex H H' → (f x = true → ∀ H3, Evl.Ex H' H3 → N (g x) H3) → (f x = false → ∀ H3, Evl.Ex H' H3 → S H3) →
    tt (σx (.int x)) H' fun b H2 => if b = true then te (σx (.int x)) H2 N else S H2
def Cf (H : Hp) (ns : List Int) (f : Int → Bool) (g : Int → V) (D : Addr) (i : Nat) (H' : Hp) : Prop :=
  H D = none ∧ Evl.Ex H H' ∧ H' D = some (.lst (((ns.take i).filter f).map g))
theorem cf_turn {D : Addr} {i : Nat} {x : Int} {H' : Hp} (hi : ns[i]? = some x) (hz : ns.length ≤ 40000) (ht : TurnF H tt te σx f g x) (p : Cf H ns f g D i H') :
    tt (σx (.int x)) H' fun b H3 => if b = true then te (σx (.int x)) H3 fun y H4 => ∃ acc, H4 D = some (.lst acc) ∧ acc.length < sizeLine ∧ Cf H ns f g D (i + 1) (upd H4 D (.lst (acc ++ [y]))) else Cf H ns f g D (i + 1) H3 := by
  obtain ⟨e, ex, ea⟩ := p
  have hl : ((((ns.take i).filter f).map g)).length < 100000 := by
    rw [List.length_map]
    have h1 := List.length_filter_le f (ns.take i)
    have h2 := List.length_take_le i ns
    have h3 := List.length_take (i := i) (l := ns)
    omega
  refine ht H' _ _ ex (fun hf H3 e3 => ?_) fun hf H3 e3 => ?_
  · refine ⟨_, e3 D _ ea, Evl.sz_lt hl, e, Evl.Ex.mut (ex.trans e3) e, ?_⟩
    rw [upd_same, List.take_add_one, hi, List.filter_append, List.map_append]
    have : ((some x).toList.filter f) = [x] := by simp [hf]
    rw [this] <;> rfl
  · refine ⟨e, ex.trans e3, ?_⟩
    rw [List.take_add_one, hi, List.filter_append]
    have : ((some x).toList.filter f) = [] := by simp [hf]
    rw [this, List.append_nil]
    exact e3 D _ ea
theorem lc_fmT (f : Int → Bool) (g : Int → V) (hx : SqT K H a (ns.map V.int)) (hz : ns.length ≤ 40000) (hσ : ∀ x, (wipe σ vs).set j (some x) = σx x) (hw : ∀ x, wipe (σx x) vs = wipe σ vs)
    (hs : ∀ x ∈ ns, TurnF H tt te σx f g x)
    (hd : ∀ D H', Evl.Ex H H' → H D = none → H' D = some (.lst ((ns.filter f).map g)) → Q (.ref D) H') : LcR (gName j) tt te vs σ Q (Itt K a) H := fun D hn =>
  lc_tup (xs := ns.map V.int) (Cf H ns f g D) ⟨hn, Evl.Ex.new hn, upd_same⟩ (fun i H' _ ⟨_, ex, _⟩ => Evl.ex_t ex hx) (fun i x H' hi p => by
    rw [List.getElem?_map] at hi
    obtain ⟨y, hy, rfl⟩ := Option.map_eq_some_iff.mp hi
    rw [show gName j (.int y) (wipe σ vs) H' = fun N => N (σx (.int y)) H' from funext fun N => by rw [← hσ (.int y)] <;> rfl]
    exact ⟨hw _, cf_turn hy hz (hs y (List.mem_of_getElem? hy)) p⟩) fun H' p => by
    obtain ⟨e, ex, ea⟩ := p
    rw [List.length_map, List.take_of_length_le (Nat.le_refl _)] at ea
    exact hd D H' ex e ea
theorem lc_fmL (f : Int → Bool) (g : Int → V) (hx : SqL K H a (ns.map V.int)) (hz : ns.length ≤ 40000) (hσ : ∀ x, (wipe σ vs).set j (some x) = σx x) (hw : ∀ x, wipe (σx x) vs = wipe σ vs)
    (hs : ∀ x ∈ ns, TurnF H tt te σx f g x)
    (hd : ∀ D H', Evl.Ex H H' → H D = none → H' D = some (.lst ((ns.filter f).map g)) → Q (.ref D) H') : LcR (gName j) tt te vs σ Q (Itl K a) H := fun D hn =>
  lc_list (xs := ns.map V.int) (Cf H ns f g D) ⟨hn, Evl.Ex.new hn, upd_same⟩ (fun i H' _ ⟨_, ex, _⟩ => Evl.ex_l ex hx) (fun i x H' hi p => by
    rw [List.getElem?_map] at hi
    obtain ⟨y, hy, rfl⟩ := Option.map_eq_some_iff.mp hi
    rw [show gName j (.int y) (wipe σ vs) H' = fun N => N (σx (.int y)) H' from funext fun N => by rw [← hσ (.int y)] <;> rfl]
    exact ⟨hw _, cf_turn hy hz (hs y (List.mem_of_getElem? hy)) p⟩) fun H' p => by
    obtain ⟨e, ex, ea⟩ := p
    rw [List.length_map, List.take_of_length_le (Nat.le_refl _)] at ea
    exact hd D H' ex e ea
theorem rd_maxL {m : List Int} (s : SqL K H a (m.map V.int)) (h0 : 0 < m.length) (h : ∀ x, x ∈ m → (∀ y, y ∈ m → y ≤ x) → Q (.int x) H) : rMax K [.ref a] H Q := ⟨a, m, rfl, s, h0, h⟩
end
theorem rd_iteC {p : Prop} {_ : Decidable p} {σ : L2.St} {H : Hp} {Q : VK} {u v x : V} (e1 : p → u = x) (e2 : ¬ p → v = x) (h : Q x H) : if decide p = true then tC u σ H Q else tC v σ H Q := by
  by_cases c : p
  · rw [if_pos (decide_eq_true c), e1 c]
    exact h
  · rw [if_neg (by rw [decide_eq_true_eq]; exact c), e2 c]
    exact h
theorem bor_l {a b : Bool} (h : a = true) : (a || b) = true := by rw [h, Bool.true_or]
theorem bor_r {a b : Bool} (h : b = true) : (a || b) = true := by rw [h, Bool.or_true]
theorem bor_f {a b : Bool} (h : a = false) (h2 : b = false) : (a || b) = false := by rw [h, h2, Bool.or_false]
/-- the sign of a literal's letter -/
def sgn (z : Str) (x : Int) : Nat := z.cps.toList.getD (x.natAbs - 1) 0
def heldBy (z h : Str) (x : Int) : Bool := decide (V.str ⟨#[sgn z x]⟩ = V.str h)
theorem at_sgn {n : Nat} {z : Str} {x : Int} (h : OwnS n z) (h1 : 1 ≤ x.natAbs) (h2 : x.natAbs ≤ n) : atI z.cps.toList ((x.natAbs : Int) - 1) = some (sgn z x) := by
  have e : (x.natAbs : Int) - 1 = ((x.natAbs - 1 : Nat) : Int) := by omega
  have hl : x.natAbs - 1 < z.cps.toList.length := by
    have : z.cps.toList.length = n := h.1
    omega
  rw [e]
  refine atI_nat ?_
  unfold sgn
  rw [List.getElem?_eq_getElem hl, List.getD_eq_getElem?_getD, List.getElem?_eq_getElem hl]
  rfl
end Ea
set_option Elab.async false
set_option linter.all false
set_option maxRecDepth 100000
set_option maxHeartbeats 4000000
/-! Loops over tuples; dicts of literals by their letters. -/
namespace Ea
open PySem PySem.Spec PyProof.Rows L2

/-! ### a for, by its iterator -/
def ForR (g : TG) (tb : TS) (D : Ends) (σ : L2.St) (J : It) (H1 : Hp) : Prop :=
  ∃ W : Nat → Nat → L2.St → Hp → Prop, (∃ m, W 0 m σ H1) ∧ ∀ i m σ H, W i m σ H →
    (J.stop i H ∧ D.nx σ H) ∨
    (J.go i H ∧ ∃ N : L2.St → Hp → Prop, (∀ σ' H', N σ' H' → ∃ m', m' < m ∧ W (i + 1) m' σ' H') ∧
      ∀ x H', J.yld i H x H' → g x σ H' fun σ2 H2 => tb { D with nx := N, ct := N, bk := D.nx } σ2 H2)
section
variable {K : PySem.W.Frag} {σ : L2.St} {H : Hp} {g : TG} {tb : TS} {D : Ends} {wi : TI} {a : Addr} {xs : List V} {j : Nat}
theorem rd_for (h : wi σ H (ForR g tb D σ)) : tFor wi g tb D σ H := h
theorem fr_tup (Pv : Nat → L2.St → Hp → Prop) (h0 : Pv 0 σ H) (hl : ∀ i σ H, i ≤ xs.length → Pv i σ H → SqT K H a xs)
    (hs : ∀ i x σ H, xs[i]? = some x → Pv i σ H → tb { D with nx := Pv (i + 1), ct := Pv (i + 1), bk := D.nx } (σ.set j (some x)) H) (hd : ∀ σ H, Pv xs.length σ H → D.nx σ H) :
    ForR (gName j) tb D σ (Itt K a) H := for_tup Pv h0 hl (fun i x σ H hi p => hs i x σ H hi p) hd
theorem fr_list (Pv : Nat → L2.St → Hp → Prop) (h0 : Pv 0 σ H) (hl : ∀ i σ H, i ≤ xs.length → Pv i σ H → SqL K H a xs)
    (hs : ∀ i x σ H, xs[i]? = some x → Pv i σ H → tb { D with nx := Pv (i + 1), ct := Pv (i + 1), bk := D.nx } (σ.set j (some x)) H) (hd : ∀ σ H, Pv xs.length σ H → D.nx σ H) :
    ForR (gName j) tb D σ (Itl K a) H := for_list Pv h0 hl (fun i x σ H hi p => hs i x σ H hi p) hd
theorem fr_range {lo : Int} {n : Nat} (Pv : Nat → L2.St → Hp → Prop) (h0 : Pv 0 σ H)
    (hs : ∀ i σ H, i < n → Pv i σ H → tb { D with nx := Pv (i + 1), ct := Pv (i + 1), bk := D.nx } (σ.set j (some (.int (lo + i)))) H) (hd : ∀ σ H, Pv n σ H → D.nx σ H) :
    ForR (gName j) tb D σ (Itr lo n) H := for_range Pv h0 (fun i σ H hi p => hs i σ H hi p) hd
end

theorem rd_dnew {σ : L2.St} {H : Hp} {Q : VK} (h : ∀ p, H p = none → Q (.ref p) (upd H p (.dK []))) : tDNewK σ H Q := h
theorem rd_gtup2 {K : PySem.W.Frag} {σ σ' : L2.St} {H : Hp} {p : Addr} {x y : V} {n i j : Nat} {N : L2.St → Hp → Prop} (s : SqT K H p [x, y]) (hn : n = 2) (hs : (σ.set i (some x)).set j (some y) = σ') (h : N σ' H) :
    gTup K n (gCons (gName i) (gCons (gName j) gNil)) (.ref p) σ H N := ⟨p, [x, y], rfl, s, hn.symm, x, [y], rfl, y, [], rfl, rfl, by subst hs; exact h⟩
/-! ### sorted of a dict by its keys -/
def rSortD : List V → Hp → VK → Prop := fun xs H Q => ∃ (a : Addr) (kvs : List (Key × V)) (ks : List Int), xs = [.ref a] ∧ Rd H a (.dK kvs) ∧ kvs.map (·.1) = ks.map Sum.inl ∧ ks.length < 64 ∧
  ∀ (ys : List Int) (p : Addr), ys.Perm ks → ys.Pairwise (· ≤ ·) → H p = none → Q (.ref p) (upd H p (.lst (ys.map V.int)))
theorem c_sortedD {X : Cx} (h : X.calm = true) : CallR X (.builtin "sorted") rSortD := call_sortedDI h
theorem rd_sortD {H : Hp} {Q : VK} {a : Addr} {kvs : List (Key × V)} {ks : List Int} (h : H a = some (.dK kvs)) (e : kvs.map (·.1) = ks.map Sum.inl) (hl : ks.length < 64)
    (q : ∀ (ys : List Int) (p : Addr), ys.Perm ks → ys.Pairwise (· ≤ ·) → H p = none → Q (.ref p) (upd H p (.lst (ys.map V.int)))) : rSortD [.ref a] H Q := ⟨a, kvs, ks, rfl, .inl h, e, hl, q⟩

/-! ### a dict of literals by letters -/
abbrev lk (x : Int) : Key := Sum.inl (x.natAbs : Int)
structure Dic (ws : List Int) (kvs : List (Key × V)) : Prop where
  ks : ∃ ks : List Int, kvs.map (·.1) = ks.map Sum.inl ∧ ks.Nodup ∧ ∀ k, k ∈ ks ↔ ∃ x ∈ ws, (x.natAbs : Int) = k
  val : ∀ k : Int, (∃ x ∈ ws, (x.natAbs : Int) = k) → ∃ x ∈ ws, (x.natAbs : Int) = k ∧ valV kvs (.inl k) = some (.int x)
  len : kvs.length ≤ ws.length
theorem Dic.nil : Dic [] [] := by
  refine ⟨⟨[], rfl, List.nodup_nil, fun k => ⟨fun h => (nomatch h), ?_⟩⟩, ?_, Nat.le_refl _⟩
  · rintro ⟨x, h, _⟩
    cases h
  · rintro k ⟨x, h, _⟩
    cases h
theorem keys_put {kvs : List (Key × V)} {k : Key} {v : V} : (putK kvs k v).map (·.1) = if (kvs.any fun kv => decide (kv.1 = k)) = true then kvs.map (·.1) else kvs.map (·.1) ++ [k] := by
  unfold putK
  split
  · rw [List.map_map]
    refine List.map_congr_left fun p _ => ?_
    show (if p.1 = k then (p.1, v) else p).1 = p.1
    split <;> rfl
  · rw [List.map_append]
    rfl
theorem any_key {kvs : List (Key × V)} {k : Key} : (kvs.any fun kv => decide (kv.1 = k)) = true ↔ k ∈ kvs.map (·.1) := by
  rw [List.any_eq_true, List.mem_map]
  constructor
  · rintro ⟨p, hp, e⟩
    exact ⟨p, hp, of_decide_eq_true e⟩
  · rintro ⟨p, hp, e⟩
    exact ⟨p, hp, decide_eq_true e⟩
theorem Dic.put {ws : List Int} {kvs : List (Key × V)} (h : Dic ws kvs) (x : Int) : Dic (ws ++ [x]) (putK kvs (lk x) (.int x)) := by
  obtain ⟨⟨ks, e, nd, hm⟩, hv, hl⟩ := h
  refine ⟨?_, fun k hk => ?_, ?_⟩
  · rw [keys_put]
    by_cases c : (kvs.any fun kv => decide (kv.1 = lk x)) = true
    · rw [if_pos c]
      have hx : (x.natAbs : Int) ∈ ks := by
        have z := any_key.mp c
        rw [e] at z
        obtain ⟨k, hk, e2⟩ := List.mem_map.mp z
        cases e2
        exact hk
      refine ⟨ks, e, nd, fun k => ⟨fun hk => ?_, fun ⟨y, hy, e2⟩ => ?_⟩⟩
      · obtain ⟨y, hy, e2⟩ := (hm k).mp hk
        exact ⟨y, List.mem_append_left _ hy, e2⟩
      · rcases List.mem_append.mp hy with hy | hy
        · exact (hm k).mpr ⟨y, hy, e2⟩
        · rw [List.mem_singleton.mp hy] at e2
          rw [← e2]
          exact hx
    · rw [if_neg c]
      have hx : (x.natAbs : Int) ∉ ks := fun hx => c (any_key.mpr (by rw [e]; exact List.mem_map_of_mem hx))
      refine ⟨ks ++ [(x.natAbs : Int)], by rw [e, List.map_append] <;> rfl, ?_, fun k => ⟨fun hk => ?_, fun ⟨y, hy, e2⟩ => ?_⟩⟩
      · rw [List.nodup_append]
        exact ⟨nd, by simp, fun a ha b hb => by rw [List.mem_singleton.mp hb]; exact fun q => hx (q ▸ ha)⟩
      · rcases List.mem_append.mp hk with hk | hk
        · obtain ⟨y, hy, e2⟩ := (hm k).mp hk
          exact ⟨y, List.mem_append_left _ hy, e2⟩
        · exact ⟨x, List.mem_append_right _ List.mem_cons_self, (List.mem_singleton.mp hk).symm⟩
      · rcases List.mem_append.mp hy with hy | hy
        · exact List.mem_append_left _ ((hm k).mpr ⟨y, hy, e2⟩)
        · rw [List.mem_singleton.mp hy] at e2
          exact List.mem_append_right _ (by rw [← e2]; exact List.mem_cons_self)
  · rw [valV_put]
    by_cases c : (Sum.inl k : Key) = lk x
    · rw [if_pos c]
      have c2 : k = (x.natAbs : Int) := Sum.inl.inj c
      exact ⟨x, List.mem_append_right _ List.mem_cons_self, c2.symm, rfl⟩
    · rw [if_neg c]
      obtain ⟨y, hy, e2⟩ := hk
      have hy' : y ∈ ws := by
        rcases List.mem_append.mp hy with hy | hy
        · exact hy
        · rw [List.mem_singleton.mp hy] at e2
          exact absurd (congrArg Sum.inl e2.symm) c
      obtain ⟨z, hz, e3, e4⟩ := hv k ⟨y, hy', e2⟩
      exact ⟨z, List.mem_append_left _ hz, e3, e4⟩
  · have h1 := congrArg List.length (keys_put (kvs := kvs) (k := lk x) (v := .int x))
    rw [List.length_map] at h1
    rw [h1, List.length_append, List.length_singleton]
    split
    · rw [List.length_map]
      omega
    · rw [List.length_append, List.length_map, List.length_singleton]
      omega
/-- the literal that a dict has for a letter -/
def litOf (kvs : List (Key × V)) (k : Int) : Int := match valV kvs (.inl k) with
  | some (.int x) => x
  | _ => 0
theorem Dic.lit {ws : List Int} {kvs : List (Key × V)} (h : Dic ws kvs) {k : Int} (hk : ∃ x ∈ ws, (x.natAbs : Int) = k) :
    valV kvs (.inl k) = some (.int (litOf kvs k)) ∧ litOf kvs k ∈ ws ∧ ((litOf kvs k).natAbs : Int) = k := by
  obtain ⟨x, hx, e, hv⟩ := h.val k hk
  have : litOf kvs k = x := by
    unfold litOf
    rw [hv]
  rw [this]
  exact ⟨hv, hx, e⟩
theorem Dic.join {n : Nat} {one other : List Int} {kvs : List (Key × V)} (h : Dic (one ++ other) kvs) (a : Row n one) (b : Row n other) {ys : List Int} (so : ys.Pairwise (· < ·))
    (hy : ∀ k, k ∈ ys ↔ (∃ x ∈ one ++ other, (x.natAbs : Int) = k) ∧ k ∉ against one other) : IsJoin one other (ys.map (litOf kvs)) := by
  have hl : ∀ k ∈ ys, litOf kvs k ∈ one ++ other ∧ ((litOf kvs k).natAbs : Int) = k := fun k hk => (h.lit ((hy k).mp hk).1).2
  refine ⟨?_, fun x => ⟨fun hx => ?_, fun ⟨hx, hn⟩ => ?_⟩⟩
  · rw [List.pairwise_map]
    refine List.Pairwise.imp_of_mem (fun {p q} hp hq hlt => ?_) so
    have h1 := (hl p hp).2
    have h2 := (hl q hq).2
    omega
  · obtain ⟨k, hk, rfl⟩ := List.mem_map.mp hx
    obtain ⟨h1, h2⟩ := hl k hk
    exact ⟨List.mem_append.mp h1, by rw [h2]; exact ((hy k).mp hk).2⟩
  · have hk : (x.natAbs : Int) ∈ ys := (hy _).mpr ⟨⟨x, List.mem_append.mpr hx, rfl⟩, hn⟩
    obtain ⟨h1, h2⟩ := hl _ hk
    refine List.mem_map.mpr ⟨_, hk, ?_⟩
    exact (same_of a b hx (List.mem_append.mp h1) (by omega) hn).symm
theorem valV_drop {kvs : List (Key × V)} {k j : Key} (h : j ≠ k) : valV (dropK kvs k) j = valV kvs j := by
  induction kvs with
  | nil => rfl
  | cons p r ih =>
    by_cases e : p.1 = k
    · rw [dropK_pos e, ih, valV_neg (fun z => h (z.symm.trans e))]
    · rw [dropK_neg e]
      by_cases e2 : p.1 = j
      · rw [valV_pos e2, valV_pos e2]
      · rw [valV_neg e2, valV_neg e2, ih]
theorem keys_drop {kvs : List (Key × V)} {ks : List Int} {c : Int} (h : kvs.map (·.1) = ks.map Sum.inl) : (dropK kvs (.inl c)).map (·.1) = (ks.filter fun k => decide (k ≠ c)).map Sum.inl := by
  induction kvs generalizing ks with
  | nil =>
    cases ks with
    | nil => rfl
    | cons k r => cases h
  | cons p r ih =>
    cases ks with
    | nil => cases h
    | cons k t =>
      have h1 : p.1 = Sum.inl k := (List.cons.inj h).1
      have h2 := ih (List.cons.inj h).2
      by_cases e : k = c
      · subst e
        rw [dropK_pos h1, h2]
        simp
      · have e1 : ¬ p.1 = Sum.inl c := fun z => e (Sum.inl.inj (h1.symm.trans z))
        rw [dropK_neg e1, List.map_cons, h2, h1]
        simp [e]
theorem dK_not {kvs : List (Key × V)} : ∀ zs : List V, HO.dK kvs ≠ .tup zs ∧ ∀ f, HO.dK kvs ≠ .frz f (.tup zs) := fun zs => ⟨fun h => (by cases h), fun f h => (by cases h)⟩
theorem lst_not {ys : List V} : ∀ zs : List V, HO.lst ys ≠ .tup zs ∧ ∀ f, HO.lst ys ≠ .frz f (.tup zs) := fun zs => ⟨fun h => (by cases h), fun f h => (by cases h)⟩
theorem tup_upd {K : PySem.W.Frag} {H : Hp} {p a : Addr} {o u : HO} {xs : List V} (h : H p = some o) (hn : ∀ zs, o ≠ .tup zs ∧ ∀ f, o ≠ .frz f (.tup zs)) (s : SqT K H a xs) : SqT K (upd H p u) a xs := by
  rcases s with (s | ⟨f, s⟩) | s
  · refine .inl (.inl ?_)
    rw [upd_ne (ne_of s h fun e => (hn xs).1 e.symm)]
    exact s
  · refine .inl (.inr ⟨f, ?_⟩)
    rw [upd_ne (ne_of s h fun e => (hn xs).2 f e.symm)]
    exact s
  · exact .inr s
theorem nodup_le : ∀ {n : Nat} {ks : List Int}, ks.Nodup → (∀ k ∈ ks, 1 ≤ k ∧ k ≤ (n : Int)) → ks.length ≤ n
  | 0, ks, _, hm => by
    cases ks with
    | nil => exact Nat.le_refl _
    | cons k r =>
      have := hm k List.mem_cons_self
      omega
  | n + 1, ks, h, hm => by
    have h1 : (ks.erase ((n + 1 : Nat) : Int)).length ≤ n := nodup_le (h.erase _) fun k hk => by
      obtain ⟨a, b⟩ := (List.Nodup.mem_erase_iff h).mp hk
      have := hm k b
      omega
    have h2 := List.length_erase (a := ((n + 1 : Nat) : Int)) (l := ks)
    split at h2 <;> omega
section
variable {X : Cx} {st : List Stmt} {t : TS} {p : Prop}
theorem pss_guard (h : p → PSs X st t) : PSs X st (fun D σ H => p ∧ t D σ H) := ⟨fun pins s σ H D I hq => (h hq.1).run pins s σ H D I hq.2⟩
end
end Ea
set_option Elab.async false
set_option linter.all false
set_option maxRecDepth 100000
set_option maxHeartbeats 400000
/-! Dict comprehensions of literals; own errors' facts; data that stays. -/
namespace Ea
open PySem PySem.Spec PyProof.Rows L2

def DcR (g : TG) (tt : TT) (tk tv : TE) (vs : List Nat) (σ : L2.St) (Q : VK) (J : It) (H1 : Hp) : Prop :=
  ∀ D, H1 D = none → ∃ W : Nat → Nat → Hp → Prop, (∃ m, W 0 m (upd H1 D (.dK []))) ∧ ∀ i m H, W i m H →
    (J.stop i H ∧ Q (.ref D) H) ∨
    (J.go i H ∧ ∃ Nx : Hp → Prop, (∀ H', Nx H' → ∃ m', m' < m ∧ W (i + 1) m' H') ∧
      ∀ x H', J.yld i H x H' → g x (wipe σ vs) H' fun σ2 H2 => wipe σ2 vs = wipe σ vs ∧ tt σ2 H2 fun b H3 =>
        if b = true then tk σ2 H3 fun y H4 => tv σ2 H4 fun z H5 => ∃ kvs k, y = kV k ∧ H5 D = some (.dK kvs) ∧ kvs.length < sizeLine ∧ Nx (upd H5 D (.dK (putK kvs k z))) else Nx H3)
section
variable {K : PySem.W.Frag} {σ : L2.St} {H : Hp} {Q : VK} {g : TG} {tt : TT} {tk tv : TE} {vs : List Nat} {wi : TI} {j : Nat} {σx : V → L2.St} {a : Addr} {ws : List Int}
theorem rd_dc (h : wi σ H (DcR g tt tk tv vs σ Q)) : tDc wi g tt tk tv vs σ H Q := h
theorem dc_dicT (hx : SqT K H a (ws.map V.int)) (hz : ws.length ≤ 1000) (hσ : ∀ x, (wipe σ vs).set j (some x) = σx x) (hw : ∀ x, wipe (σx x) vs = wipe σ vs)
    (hk : ∀ (x : Int) (H' : Hp) (R : VK), R (.int (x.natAbs : Int)) H' → tk (σx (.int x)) H' R) (hv : ∀ (x : Int) (H' : Hp) (R : VK), R (.int x) H' → tv (σx (.int x)) H' R)
    (hd : ∀ D kvs H', Evl.Ex H H' → H D = none → H' D = some (.dK kvs) → Dic ws kvs → Q (.ref D) H') : DcR (gName j) tYes tk tv vs σ Q (Itt K a) H := fun D hn =>
  dc_tup (xs := ws.map V.int) (fun i H' => Evl.Ex H H' ∧ ∃ kvs, H' D = some (.dK kvs) ∧ Dic (ws.take i) kvs) ⟨Evl.Ex.new hn, [], upd_same, Dic.nil⟩ (fun i H' _ p => Evl.ex_t p.1 hx) (fun i x H' hi p => by
    rw [List.getElem?_map] at hi
    obtain ⟨y, hy, rfl⟩ := Option.map_eq_some_iff.mp hi
    rw [show gName j (.int y) (wipe σ vs) H' = fun N => N (σx (.int y)) H' from funext fun N => by rw [← hσ (.int y)] <;> rfl]
    refine ⟨hw _, rd_yes (rd_true (hk y H' _ (hv y H' _ ?_)))⟩
    obtain ⟨ex, kvs, e, dd⟩ := p
    have hl := dd.len
    rw [List.length_take] at hl
    refine ⟨kvs, lk y, rfl, e, by rw [sizeLine_eq]; omega, Evl.Ex.mut ex hn, _, upd_same, ?_⟩
    rw [List.take_add_one, hy]
    exact dd.put y) fun H' p => by
    obtain ⟨ex, kvs, e, dd⟩ := p
    rw [List.length_map, List.take_of_length_le (Nat.le_refl _)] at dd
    exact hd D kvs H' ex hn e dd
end
theorem rd_ddel {td ty : TE} {D : Ends} {σ : L2.St} {H : Hp} (h : td σ H fun x H1 => ty σ H1 fun y H2 => ∃ a kvs k, x = .ref a ∧ H2 a = some (.dK kvs) ∧ y = kV k ∧ (valV kvs k).isSome = true ∧ D.nx σ (upd H2 a (.dK (dropK kvs k)))) : sDDel td ty D σ H := h
theorem rd_kw {m : Nat} {sp : Sp} {gV : List V → List V} {E : L2.St → XK} {tk : TA} {σ : L2.St} {H : Hp} {Q : VK} (h : tk σ H fun zs H2 => zs.length = m ∧ sp (gV zs) H2 Q (E σ)) : tKw m sp gV E tk σ H Q := h
theorem rd_callS {sp : Sp} {E : L2.St → XK} {t : TA} {σ : L2.St} {H : Hp} {Q : VK} (h : t σ H fun vs H1 => sp vs H1 Q (E σ)) : tCallS sp E t σ H Q := h
theorem rd_ite2 {b : Bool} {te1 te2 : TE} {σ : L2.St} {H : Hp} {Q : VK} (P : V → Hp → Prop) (h1 : ∀ Q : VK, (∀ v H', P v H' → Q v H') → te1 σ H Q) (h2 : ∀ Q : VK, (∀ v H', P v H' → Q v H') → te2 σ H Q)
    (h : ∀ v H', P v H' → Q v H') : if b = true then te1 σ H Q else te2 σ H Q := by
  cases b with
  | true => exact h1 Q h
  | false => exact h2 Q h
theorem nice_row {n : Nat} {ns : List Int} (h : Row n ns) (hn : n ≤ 60) : Nice 60 1 (.tuple (dI ns)) :=
  (Nice.tup (NiceAll.ints fun x hx => by
    have := h.2 x hx
    have : (10 : Nat) ^ 12 = 1000000000000 := by decide
    omega)).mono (by have := h.length; omega) (Nat.le_refl _)
theorem rel_rev : ∀ {zs : List V} {ws : List Value}, Vals zs ws → Vals zs.reverse ws.reverse
  | _, _, .nil => .nil
  | _, _, .cons h t => by
    rw [List.reverse_cons, List.reverse_cons]
    exact (rel_rev t).append (.cons h .nil)
/-- what stands behind a body of the text -/
theorem passAt0 {X : Cx} {σ : L2.St} {E : XK} : PassesAt CX0 X σ E := fun _ _ _ _ _ _ h => h.elim
/-- what stands of an own error class behind the top -/
structure ExcF (K : PySem.W.Frag) (mg : Str → Option Value) (x : Str) (C : Addr) : Prop where
  g : mg x = some (.ref C)
  x : PySem.W.excIn K C [.type "ValueError", .type "Exception", .type "BaseException", .type "object"] "ValueError.__new__" = true
  k : PySem.W.keepIn K (.ref C) = true
  b : PySem.W.subIn K (.ref C) (.type "BaseException") = some true
  t : PySem.W.typeIn K (.ref C) = some (.type "type")
mutual
theorem dp_ex {K : PySem.W.Frag} {H H' : Hp} (e : Evl.Ex H H') : ∀ (d : PyData) (v : V), Dp K H v d → Dp K H' v d
  | .none, _, h => by cases h; exact .non
  | .bool b, _, h => by cases h; exact .bl b
  | .int i, _, h => by cases h; exact .int i
  | .str x, _, h => by cases h; exact .str x
  | .list ds, _, h => by
    cases h with
    | lst hs ha => exact .lst (Evl.ex_l e hs) (dpAll_ex e ds _ ha)
  | .tuple ds, _, h => by
    cases h with
    | tup hs ha => exact .tup (Evl.ex_t e hs) (dpAll_ex e ds _ ha)
  | .dict _, _, h => by cases h
theorem dpAll_ex {K : PySem.W.Frag} {H H' : Hp} (e : Evl.Ex H H') : ∀ (ds : List PyData) (vs : List V), DpAll K H vs ds → DpAll K H' vs ds
  | [], _, h => by cases h; exact .nil
  | d :: ds, _, h => by
    cases h with
    | cons h1 h2 => exact .cons (dp_ex e d _ h1) (dpAll_ex e ds _ h2)
end
end Ea
set_option Elab.async false
set_option linter.all false
set_option maxRecDepth 100000
set_option maxHeartbeats 400000
/-! sorted of a tuple of ints. -/
namespace Ea
open PySem PySem.Spec PyProof.Rows L2
def rSortedT (K : PySem.W.Frag) : List V → Hp → VK → Prop := fun xs H Q => ∃ (a : Addr) (ns : List Int), xs = [.ref a] ∧ SqT K H a (ns.map V.int) ∧ ns.length < 64 ∧
  ∀ (ys : List Int) (p : Addr), ys.Perm ns → ys.Pairwise (· ≤ ·) → H p = none → Q (.ref p) (upd H p (.lst (ys.map V.int)))
theorem cr_sortedT {X : Cx} {K : PySem.W.Frag} (hK : X.K = K) : CallR X (.builtin "sorted") (rSortedT K) := by
  subst hK
  intro pins s σ H xs us Q I r q
  obtain ⟨a, ns, ex, hd, h64, q⟩ := q
  subst ex
  obtain ⟨u, eu, rx⟩ := vals1 r
  subst eu
  cases rx
  obtain ⟨its, rv, ⟨o, ho, hc, n, hds⟩, hz⟩ := I.tuple hd
  have hal : its.length = ns.length := by rw [← rv.length, List.length_map]
  have hS : IntsAre its ns := rv.ints
  refine Calls.call_function_entry PyProof.Rows.kind_sorted PyProof.Rows.plain_sorted PyProof.Rows.entry_sorted (PyProof.Rows.args_sorted1 _) ?_
  unfold Builtin.«sorted»
  refine wpAny_bind (m := checkCount "sorted" 1 1 _) (wpAny_pure ?_)
  refine wpAny_bind (wpAny_collect_seq a (.inr rfl) ho hc hds (fun h' hk => ?_) (by rw [List.size_toArray, hal, sizeLine_eq]; omega))
  have I1 : Inv X pins σ H { s with heap := h' } := I.kept hk
  refine wpAny_bind (wpAny_newList ?_ (by rw [List.toList_toArray, hal, sizeLine_eq]; omega))
  have hoL : (h'.push (seqObj "list" its.toArray.toList.toArray 0)).get? h'.objs.size = some (seqObj "list" its.toArray.toList.toArray 0) := Heap.get?_push_size _ rfl
  show wpAny _ _ _ _ _ { s with heap := h'.push (seqObj "list" its.toArray.toList.toArray 0) }
  refine wpAny_bind (wpAny_holding (wpAny_call_entry PyProof.Rows.slot_list_sort ⟨_, hoL, rfl⟩ PyProof.Rows.entry_list_sort
    (PyProof.Rows.list_sort_tree (s := { s with heap := h'.push (seqObj "list" its.toArray.toList.toArray 0) }) hoL (by rw [List.toList_toArray]; exact hS) (by rw [List.toList_toArray, hal]; exact h64) fun out ys g1 g2 g3 => ⟨_, rfl, ?_⟩) (PyProof.Rows.args_list_sort _)))
  obtain ⟨e', he'⟩ := PyProof.Rows.sortedHeap_at (vs := its.toArray.toList) (out := out) hoL
  have hlen : (ys.map V.int).length ≤ sizeLine := by
    rw [List.length_map, g2.length_eq]
    exact Nat.le_trans (Nat.le_of_lt h64) (by decide)
  refine wpAny_pure ⟨_, rfl, .ref h'.objs.size, upd H h'.objs.size (.lst (ys.map V.int)), I1.laid (t' := s.toks) (fun b u e => ?_) (Nat.le_refl _)
    (show ObjOk X.prog X.w _ _ _ (.lst (ys.map V.int)) from ⟨hlen, out.toList, e', vals_of_ints g1, by rw [Array.toArray_toList]; exact he'⟩), rfl, q ys _ g2 g3 (I1.hok.fresh (Nat.le_refl _))⟩
  have hb : b < h'.objs.size := Heap.lt_size e
  rw [PyProof.Rows.sortedHeap_old (Nat.ne_of_lt hb) (by rw [size_push']; exact Nat.lt_succ_of_lt hb)]
  exact Heap.get?_push_of_some _ e
theorem rd_sortT {K : PySem.W.Frag} {H : Hp} {Q : VK} {a : Addr} {ns : List Int} (s : SqT K H a (ns.map V.int)) (hz : ns.length < 64)
    (h : ∀ (ms : List Int) (q : Addr), ms.Perm ns → ms.Pairwise (· ≤ ·) → H q = none → Q (.ref q) (upd H q (.lst (ms.map V.int)))) : rSortedT K [.ref a] H Q :=
  ⟨a, ns, rfl, s, hz, h⟩
/-- sorted of what ascends -/
theorem sorted_same {ms ns : List Int} (p : ms.Perm ns) (s : ms.Pairwise (· ≤ ·)) (h : ns.Pairwise (· < ·)) : ms = ns := by
  refine List.Perm.eq_of_pairwise (fun a b _ _ h1 h2 => by omega) s (h.imp fun {a b} q => by omega) p
theorem rd_ite2p {p : Prop} {_ : Decidable p} {te1 te2 : TE} {σ : L2.St} {H : Hp} {Q : VK} (P : V → Hp → Prop) (h1 : p → ∀ Q : VK, (∀ v H', P v H' → Q v H') → te1 σ H Q) (h2 : ¬ p → ∀ Q : VK, (∀ v H', P v H' → Q v H') → te2 σ H Q)
    (h : ∀ v H', P v H' → Q v H') : if decide p = true then te1 σ H Q else te2 σ H Q := by
  by_cases c : p
  · rw [if_pos (decide_eq_true c)]
    exact h1 c Q h
  · rw [if_neg (by rw [decide_eq_true_eq]; exact c)]
    exact h2 c Q h
theorem rd_mulL {H : Hp} {Q : VK} {l : Addr} {k : Int} {xs : List V} (h : H l = some (.lst xs)) (h1 : 0 ≤ k ∧ k < 2 ^ 63) (hz : xs.length * k.toNat ≤ sizeLine) (q : ∀ p, H p = none → Q (.ref p) (upd H p (.lst (List.replicate k.toNat xs).flatten))) : rRep (.ref l) (.int k) H Q :=
  ⟨l, k, xs, rfl, rfl, h, by omega, h1.2, hz, q⟩
theorem rd_andV {ta tb : TE} {σ : L2.St} {H : Hp} {Q : VK} (h : ta σ H fun x H1 => ∃ c, x = .bl c ∧ if c = true then tb σ H1 Q else Q (.bl false) H1) : tAndV ta tb σ H Q := h
theorem rd_orV {ta tb : TE} {σ : L2.St} {H : Hp} {Q : VK} (h : ta σ H fun x H1 => ∃ c, x = .bl c ∧ if c = true then Q (.bl true) H1 else tb σ H1 Q) : tOrV ta tb σ H Q := h
theorem rd_notV {ta : TE} {σ : L2.St} {H : Hp} {Q : VK} (h : ta σ H fun x H1 => ∃ c, x = .bl c ∧ Q (.bl (!c)) H1) : tNotV ta σ H Q := h
theorem rd_bc {b : Bool} {P : Bool → Prop} (h : P b) : ∃ c, V.bl b = V.bl c ∧ P c := ⟨b, rfl, h⟩
/-- if, its ends brought together -/
theorem rd_meet {p : Prop} {_ : Decidable p} {t1 t2 : TS} {D : Ends} {σ : L2.St} {H : Hp} (I : L2.St → Hp → Prop) (h1 : p → ∀ N : L2.St → Hp → Prop, (∀ σ' H', I σ' H' → N σ' H') → t1 { D with nx := N } σ H)
    (h2 : ¬ p → ∀ N : L2.St → Hp → Prop, (∀ σ' H', I σ' H' → N σ' H') → t2 { D with nx := N } σ H) (h : ∀ σ' H', I σ' H' → D.nx σ' H') : if decide p = true then t1 D σ H else t2 D σ H := by
  by_cases c : p
  · rw [if_pos (decide_eq_true c)]
    exact h1 c D.nx h
  · rw [if_neg (by rw [decide_eq_true_eq]; exact c)]
    exact h2 c D.nx h
end Ea
set_option Elab.async false
set_option linter.all false
set_option maxRecDepth 100000
set_option maxHeartbeats 400000
/-! A deck of draws that is a list: what draws leave as it was; comprehensions among them. -/
namespace Ea
open PySem PySem.Spec PyProof.Rows L2
/-- a deck: a list of what is left to be drawn, a number, how often it was drawn from that -/
def DeckL (d l : Addr) (H : Hp) : Prop := ∃ (ns : List Int) (m c : Int),
  H d = some (.lst [.ref l, .int m, .int c]) ∧ H l = some (.lst (ns.map V.int)) ∧ ns.length ≤ 63 ∧ (∀ n ∈ ns, 0 ≤ n) ∧ 0 ≤ m ∧ m < 4294967291
theorem deck_ne {l : Addr} {m c : Int} {ns : List Int} {d : Addr} {H : Hp} (e1 : H d = some (.lst [.ref l, .int m, .int c])) (e2 : H l = some (.lst (ns.map V.int))) : d ≠ l := by
  intro e
  rw [e, e2] at e1
  cases ns with
  | nil => cases e1
  | cons x r => cases e1
structure Gl (d l : Addr) (H H' : Hp) : Prop where
  dk : DeckL d l H'
  kp : ∀ a o, a ≠ d → a ≠ l → H a = some o → H' a = some o
section
variable {d l : Addr} {H H1 H2 : Hp}
theorem DeckL.ne (h : DeckL d l H) : d ≠ l := by
  obtain ⟨ns, m, c, e1, e2, _⟩ := h
  exact deck_ne e1 e2
theorem Gl.refl (h : DeckL d l H) : Gl d l H H := ⟨h, fun _ _ _ _ e => e⟩
theorem Gl.trans (a : Gl d l H H1) (b : Gl d l H1 H2) : Gl d l H H2 := ⟨b.dk, fun p o n1 n2 e => b.kp p o n1 n2 (a.kp p o n1 n2 e)⟩
theorem DeckL.off (h : DeckL d l H) {p : Addr} (e : H p = none) : p ≠ d ∧ p ≠ l := by
  obtain ⟨ns, m, c, e1, e2, _⟩ := h
  exact ⟨fun z => (by rw [z, e1] at e; cases e), fun z => (by rw [z, e2] at e; cases e)⟩
theorem DeckL.upd (h : DeckL d l H) {p : Addr} {o : HO} (n1 : p ≠ d) (n2 : p ≠ l) : DeckL d l (upd H p o) := by
  obtain ⟨ns, m, c, e1, e2, r⟩ := h
  exact ⟨ns, m, c, by rw [upd_ne n1.symm]; exact e1, by rw [upd_ne n2.symm]; exact e2, r⟩
theorem Gl.new (h : DeckL d l H) {p : Addr} {o : HO} (e : H p = none) : Gl d l H (upd H p o) := by
  obtain ⟨n1, n2⟩ := h.off e
  exact ⟨h.upd n1 n2, fun q u _ _ eq => by rw [upd_ne (ne_of_none eq e)]; exact eq⟩
/-- an object that H does not know may change -/
theorem Gl.mut (g : Gl d l H H1) (h : DeckL d l H) {p : Addr} {o : HO} (e : H p = none) : Gl d l H (upd H1 p o) := by
  obtain ⟨n1, n2⟩ := h.off e
  exact ⟨g.dk.upd n1 n2, fun q u m1 m2 eq => by rw [upd_ne (ne_of_none eq e)]; exact g.kp q u m1 m2 eq⟩
theorem Gl.back (g : Gl d l H H1) (h : DeckL d l H) {p : Addr} (e : H1 p = none) : H p = none := by
  obtain ⟨n1, n2⟩ := g.dk.off e
  cases q : H p with
  | none => rfl
  | some o =>
    rw [g.kp p o n1 n2 q] at e
    cases e
/-- a tuple stays -/
theorem Gl.tup {K : PySem.W.Frag} (g : Gl d l H H1) (h : DeckL d l H) {a : Addr} {xs : List V} (t : SqT K H a xs) : SqT K H1 a xs := by
  obtain ⟨ns, m, c, e1, e2, _⟩ := h
  have hn : ∀ {o : HO}, H a = some o → (∀ kv, o ≠ .dK kv) → (∀ ys, o ≠ .lst ys) → H1 a = some o := fun e c1 c2 =>
    g.kp a _ (fun z => (by rw [z, e1] at e; cases e; exact c2 _ rfl)) (fun z => (by rw [z, e2] at e; cases e; exact c2 _ rfl)) e
  rcases t with (t | ⟨o, t⟩) | t
  · exact .inl (.inl (hn t nofun nofun))
  · exact .inl (.inr ⟨o, hn t nofun nofun⟩)
  · exact .inr t
end
section
variable {d l : Addr} {K : PySem.W.Frag} {σ : L2.St} {H : Hp} {Q : VK} {tt : TT} {te : TE} {vs : List Nat} {j : Nat} {σx : V → L2.St} {a : Addr} {xs : List V}
/-- a turn of a comprehension among draws -/
abbrev TurnL (d l : Addr) (H : Hp) (tt : TT) (te : TE) (σx : V → L2.St) (Pv : Nat → List V → Prop) (i : Nat) (x : V) : Prop :=
  ∀ (acc : List V) (H' : Hp) (N : VK) (S : Hp → Prop), Gl d l H H' → Pv i acc →
    (∀ y H3, Gl d l H' H3 → Pv (i + 1) (acc ++ [y]) → N y H3) → (∀ H3, Gl d l H' H3 → Pv (i + 1) acc → S H3) →
    tt (σx x) H' fun b H2 => if b = true then te (σx x) H2 N else S H2
def Cl (d l : Addr) (H : Hp) (Pv : Nat → List V → Prop) (D : Addr) (i : Nat) (H' : Hp) : Prop :=
  ∃ acc, H D = none ∧ Gl d l H H' ∧ H' D = some (.lst acc) ∧ acc.length ≤ i ∧ Pv i acc
theorem cl_start {Pv : Nat → List V → Prop} (hD : DeckL d l H) (h0 : Pv 0 []) {D : Addr} (e : H D = none) : Cl d l H Pv D 0 (upd H D (.lst [])) :=
  ⟨[], e, Gl.new hD e, upd_same, Nat.le_refl _, h0⟩
theorem cl_turn {Pv : Nat → List V → Prop} {D : Addr} {i : Nat} {x : V} {H' : Hp} (hD : DeckL d l H) (hi : i < 100000) (ht : TurnL d l H tt te σx Pv i x) (p : Cl d l H Pv D i H') :
    tt (σx x) H' fun b H3 => if b = true then te (σx x) H3 fun y H4 => ∃ acc, H4 D = some (.lst acc) ∧ acc.length < sizeLine ∧ Cl d l H Pv D (i + 1) (upd H4 D (.lst (acc ++ [y]))) else Cl d l H Pv D (i + 1) H3 := by
  obtain ⟨acc, e, g, ea, hl, hp⟩ := p
  obtain ⟨n1, n2⟩ := hD.off e
  refine ht acc H' _ _ g hp (fun y H3 g3 hp3 => ?_) fun H3 g3 hp3 => ?_
  · refine ⟨acc, g3.kp D _ n1 n2 ea, Evl.sz_lt (by omega), acc ++ [y], e, Gl.mut (g.trans g3) hD e, upd_same, ?_, hp3⟩
    rw [List.length_append, List.length_singleton]
    omega
  · exact ⟨acc, e, g.trans g3, g3.kp D _ n1 n2 ea, by omega, hp3⟩
theorem lc_glT (Pv : Nat → List V → Prop) (hD : DeckL d l H) (hx : SqT K H a xs) (hz : xs.length ≤ 40000) (hσ : ∀ x, (wipe σ vs).set j (some x) = σx x) (hw : ∀ x, wipe (σx x) vs = wipe σ vs)
    (h0 : Pv 0 []) (hs : ∀ i x, xs[i]? = some x → TurnL d l H tt te σx Pv i x)
    (hd : ∀ D acc H', Gl d l H H' → H D = none → H' D = some (.lst acc) → Pv xs.length acc → Q (.ref D) H') : LcR (gName j) tt te vs σ Q (Itt K a) H := fun D hn =>
  lc_tup (xs := xs) (Cl d l H Pv D) (cl_start hD h0 hn) (fun i H' _ ⟨_, _, g, _⟩ => g.tup hD hx) (fun i x H' hi p => by
    rw [show gName j x (wipe σ vs) H' = fun N => N (σx x) H' from funext fun N => by rw [← hσ x] <;> rfl]
    refine ⟨hw x, ?_⟩
    have := (List.getElem?_eq_some_iff.mp hi).1
    exact cl_turn hD (by omega) (hs i x hi) p) fun H' p => by
    obtain ⟨acc, e, g, ea, _, hp⟩ := p
    exact hd D acc H' g e ea hp
theorem lc_glL (Pv : Nat → List V → Prop) (hD : DeckL d l H) (hx : ∀ H', Gl d l H H' → SqL K H' a xs) (hz : xs.length ≤ 40000) (hσ : ∀ x, (wipe σ vs).set j (some x) = σx x) (hw : ∀ x, wipe (σx x) vs = wipe σ vs)
    (h0 : Pv 0 []) (hs : ∀ i x, xs[i]? = some x → TurnL d l H tt te σx Pv i x)
    (hd : ∀ D acc H', Gl d l H H' → H D = none → H' D = some (.lst acc) → Pv xs.length acc → Q (.ref D) H') : LcR (gName j) tt te vs σ Q (Itl K a) H := fun D hn =>
  lc_list (xs := xs) (Cl d l H Pv D) (cl_start hD h0 hn) (fun i H' _ ⟨_, _, g, _⟩ => hx H' g) (fun i x H' hi p => by
    rw [show gName j x (wipe σ vs) H' = fun N => N (σx x) H' from funext fun N => by rw [← hσ x] <;> rfl]
    refine ⟨hw x, ?_⟩
    have := (List.getElem?_eq_some_iff.mp hi).1
    exact cl_turn hD (by omega) (hs i x hi) p) fun H' p => by
    obtain ⟨acc, e, g, ea, _, hp⟩ := p
    exact hd D acc H' g e ea hp
theorem lc_glR {lo : Int} {n : Nat} (Pv : Nat → List V → Prop) (hD : DeckL d l H) (hz : n ≤ 40000) (hσ : ∀ x, (wipe σ vs).set j (some x) = σx x) (hw : ∀ x, wipe (σx x) vs = wipe σ vs)
    (h0 : Pv 0 []) (hs : ∀ i, i < n → TurnL d l H tt te σx Pv i (.int (lo + i)))
    (hd : ∀ D acc H', Gl d l H H' → H D = none → H' D = some (.lst acc) → Pv n acc → Q (.ref D) H') : LcR (gName j) tt te vs σ Q (Itr lo n) H := fun D hn =>
  lc_range (Cl d l H Pv D) (cl_start hD h0 hn) (fun i H' hi p => by
    rw [show gName j (.int (lo + i)) (wipe σ vs) H' = fun N => N (σx (.int (lo + i))) H' from funext fun N => by rw [← hσ (.int (lo + i))] <;> rfl]
    exact ⟨hw _, cl_turn hD (by omega) (hs i hi) p⟩) fun H' p => by
    obtain ⟨acc, e, g, ea, _, hp⟩ := p
    exact hd D acc H' g e ea hp
end

section
variable {d l : Addr} {H H' : Hp}
theorem Gl.ex (e : Evl.Ex H H') (h : DeckL d l H) : Gl d l H H' := by
  obtain ⟨ns, m, c, e1, e2, r⟩ := h
  exact ⟨⟨ns, m, c, e _ _ e1, e _ _ e2, r⟩, fun a o _ _ q => e a o q⟩
end
theorem rd_gsub {to ti : TE} {t : TSet} {v : V} {σ : L2.St} {H : Hp} {N : L2.St → Hp → Prop} (h : to σ H fun o H1 => ti σ H1 fun i H2 => t o i v H2 fun H3 => N σ H3) : gSub to ti t v σ H N := h
end Ea
set_option Elab.async false
set_option linter.all false
set_option maxRecDepth 100000
set_option maxHeartbeats 1000000
/-! enumerate of a tuple; zip of a tuple and a list. -/
namespace Ea
open PySem PySem.Spec PyProof.Rows L2
/-- enumerate(v), v told by how its iterator begins -/
theorem meets_enum1 {v : Value} {o : Obj} {Hh : Heap → Prop} (B : Begins v o Hh) :
    Meets (Builtin.«enumerate.__new__» ⟨[.type "enumerate", v], []⟩) (fun _ R s => Hh s.heap ∧
      R (.ok (.ret (.ref (s.heap.push o).objs.size))) { s with heap := (s.heap.push o).push { cls := .type "enumerate", data := .fields #[.none, .bool false, .ref s.heap.objs.size, rawInt 0, .none, .none] } }) :=
  .of_wp fun prog w A R s h => by
    obtain ⟨hp, g, d, tk, os⟩ := s
    obtain ⟨h1, h⟩ := h
    have hsub := sub_enumerate
    have q1 : ∀ {A' : Around} {E : Value → Shared → Prop} {Q : Value → Shared → Prop}, Q (.ref hp.objs.size) ⟨hp.push o, g, d, tk, os⟩ → wpAny (model prog w) A' (pyIter v) Q E ⟨hp, g, d, tk, os⟩ :=
      fun q => B.iter prog w _ _ ⟨hp, g, d, tk, os⟩ _ h1 q
    wp_walk using q1
    refine wpAny_stack_any fun st => wpAny_pure ?_
    split
    · rename_i c _ _ _ _ _
      cases (c == Value.type "enumerate") <;> (wp_walk using q1; exact ⟨_, rfl, h⟩)
    · wp_walk using q1
      exact ⟨_, rfl, h⟩
theorem call_enum1 {prog : Program} {w : World} {A : Around} {E : Value → Shared → Prop} {s : Shared} {v : Value} {o : Obj} {Hh : Heap → Prop} {Q : Value → Shared → Prop} (B : Begins v o Hh) (h1 : Hh s.heap)
    (h : ∀ h', IsEnum h' (s.heap.objs.size + 1) s.heap.objs.size 0 .none → h'.get? s.heap.objs.size = some o → (∀ b o, s.heap.get? b = some o → h'.get? b = some o) → Q (.ref (s.heap.objs.size + 1)) { s with heap := h' }) :
    wpAny (model prog w) A (call (.type "enumerate") [v]) Q E s := by
  refine callType_new F.called_enumerate (by decide) (F.typeCall_enumerate_1 _) (F.newCall_enumerate_1 _) (fun obj => F.args_object_init_2 obj _) F.entry_enumerate_new (meets_enum1 B) ⟨h1, ?_⟩
  have hz : (s.heap.push o).objs.size = s.heap.objs.size + 1 := Heap.size_push ..
  show _ ∧ _
  rw [hz]
  have he : IsEnum ((s.heap.push o).push { cls := .type "enumerate", data := .fields #[.none, .bool false, .ref s.heap.objs.size, rawInt 0, .none, .none] }) (s.heap.objs.size + 1) s.heap.objs.size 0 .none := by
    have z := Heap.get?_push_size (s.heap.push o) (o := { cls := .type "enumerate", data := .fields #[.none, .bool false, .ref s.heap.objs.size, rawInt 0, .none, .none] }) rfl
    rw [hz] at z
    exact z
  exact ⟨⟨_, he, rfl⟩, h _ he (Heap.get?_push_of_some _ (Heap.get?_push_size _ B.free)) fun b o x => Heap.get?_push_of_some _ (Heap.get?_push_of_some _ x)⟩
/-- the tuple at a, each item in a new pair -/
def IteT (K : PySem.W.Frag) (a : Addr) : It :=
  ⟨fun i H => ∃ (xs : List V) (x : V), SqT K H a xs ∧ xs[i]? = some x, fun i H v H' => ∃ T x, v = .ref T ∧ H T = none ∧ H' = upd H T (.tup [.int (i : Nat), x]) ∧ ∀ xs, SqT K H a xs → xs[i]? = some x, fun i H => ∃ xs : List V, SqT K H a xs ∧ xs.length = i⟩
theorem apart {h : Heap} {a b : Addr} {o u : Obj} (e1 : h.get? a = some o) (e2 : h.get? b = some u) (hc : o.cls ≠ u.cls) : a ≠ b := fun e => by
  rw [e, e2] at e1
  cases e1
  exact hc rfl
theorem turn_enumT {P : Program} {w : World} {K : PySem.W.Frag} {elts : List Expr} {kk : Nat} {tpos : Pos} (a e it : Addr) :
    L2.Turn P w K (.Tuple elts kk tpos) (IteT K a) [e, it] e (fun i h => (∃ old, IsEnum h e it ((i : Nat) : Int) old) ∧ h.IsTupleIter it a i ∧ e ≠ it) where
  mem := by simp
  obj := fun i h st b hb => by
    obtain ⟨⟨old, he⟩, ⟨o, ho, hc, hd⟩, _⟩ := st
    have e' : b = e ∨ b = it := by simpa using hb
    rcases e' with rfl | rfl
    · exact ⟨_, he, fun v q => nomatch q⟩
    · exact ⟨o, ho, fun v q => by rw [hd] at q; cases q⟩
  keep := fun i h h' st k => let ⟨⟨old, he⟩, hi, hne⟩ := st; ⟨⟨old, k e (by simp) _ he⟩, hi.at fun o q => k it (by simp) o q, hne⟩
  item := by
    intro X hP hw hK hc i pins s σ H E I hf st hg
    subst hP hw hK
    obtain ⟨⟨old, he⟩, hit, hne⟩ := st
    obtain ⟨xs, x, hq, hx⟩ := hg
    obtain ⟨its, rv, p, hz⟩ := I.tuple hq
    obtain ⟨u, hu, ru⟩ := rv.get hx
    obtain ⟨oi, hoi, hci, _⟩ := id hit
    obtain ⟨ot, hot, hct, _⟩ := id p
    have hai : a ≠ it := apart hot hoi (by rw [hct, hci]; decide)
    have hea : e ≠ a := apart he hot (by rw [hct]; show Value.type "enumerate" ≠ Value.type "tuple"; decide)
    have hel : e < s.heap.objs.size := Heap.lt_size he
    have hil : it < s.heap.objs.size := Heap.lt_size hoi
    have hlt : i < its.toArray.size := by
      have := (List.getElem?_eq_some_iff.mp hu).1
      simpa using this
    refine wpAny_pyNext_enum_itemD (Draws.tuple (prog := X.prog) (w := X.w) (A := X.A.in1) (I.ok.hd hc) it a hai its.toArray) he ⟨hit, p⟩ hlt hne (by simp [hne, hea]) fun x' h' tk hP ho st' hT hsz hk => ?_
    obtain rfl : u = x' := by
      have z : its[i]? = some x' := by simpa using hP
      rw [hu] at z
      exact Option.some.inj z
    refine ⟨_, rfl, wpAny_letOwnedTupleGo_enum (s := { s with heap := h', toks := tk + 1 }) ho fun h'' he' sb => ?_⟩
    have hT2 : h''.get? s.heap.objs.size = some { cls := .type "tuple", data := .seq #[.int i tk, u] } := (sb.2 _ (Nat.ne_of_gt hel)).trans hT
    have new : ObjOk X.prog X.w (upd H s.heap.objs.size (.tup [.int (i : Nat), x])) h'' s.heap.objs.size (.tup [.int (i : Nat), x]) :=
      ⟨by show 2 ≤ sizeLine; decide, [.int i tk, u], .cons ⟨_, rfl⟩ (.cons ru .nil), ⟨_, hT2, rfl, _, rfl⟩⟩
    have I1 : Inv X pins σ (upd H s.heap.objs.size (.tup [.int (i : Nat), x])) { s with heap := h'', toks := tk + 1 } :=
      I.turnedNew (ch := [e, it]) (fun b ob hb q => (sb.2 b (fun z => hb (by simp [z]))).trans (hk b ob (fun z => hb (by simp [z])) (fun z => hb (by simp [z])) q)) hf (Nat.le_refl _) new
    refine ⟨.ref s.heap.objs.size, _, I1, rfl, ⟨_, x, rfl, I.hok.fresh (Nat.le_refl _), rfl, fun ys hy => by rw [I.tuple_inj hy hq]; exact hx⟩, ⟨⟨u, ?_⟩, st'.1.at fun o q => (sb.2 it (Ne.symm hne)).trans q, hne⟩, fun b hb => ?_⟩
    · have e1 : ((i + 1 : Nat) : Int) = (i : Int) + 1 := by omega
      rw [e1]
      exact he'
    · have hb' : b < s.heap.objs.size := by
        have e' : b = e ∨ b = it := by simpa using hb
        rcases e' with rfl | rfl
        · exact hel
        · exact hil
      rw [upd_ne (Nat.ne_of_lt hb')]
      exact (hf b hb).1
  done := by
    intro X hP hw hK hc i pins s σ H E I hf st hg
    subst hP hw hK
    obtain ⟨⟨old, he⟩, hit, hne⟩ := st
    obtain ⟨xs, hq, hx⟩ := hg
    obtain ⟨its, rv, p, hz⟩ := I.tuple hq
    obtain ⟨oi, hoi, hci, _⟩ := id hit
    obtain ⟨ot, hot, hct, _⟩ := id p
    have hai : a ≠ it := apart hot hoi (by rw [hct, hci]; decide)
    obtain ⟨f0, f1, f2, f3, f4, f5⟩ := hf it (by simp)
    have hl : i = its.toArray.size := by
      have := rv.length
      rw [List.size_toArray]
      omega
    exact wpAny_pyNext_enum_endD (Draws.tuple (prog := X.prog) (w := X.w) (A := X.A.in1) (I.ok.hd hc) it a hai its.toArray) he ⟨hl ▸ hit, p⟩ fun h' eb => ⟨rfl, I.turned (t' := s.toks) (fun b o hb q => eb b o hb q) f0 f1 f3 f4 f5⟩
  self := fun A i s Q E st h => let ⟨⟨_, he⟩, _⟩ := st; wpAny_pyIter_enum he h
def iEnumT (K : PySem.W.Frag) (ta : TA) : TI := fun σ H R => ta σ H fun vs H1 => ∃ a xs, vs = [.ref a] ∧ SqT K H1 a xs ∧ R (IteT K a) H1
theorem pi_enumT {X : Cx} {K : PySem.W.Frag} (hKK : X.K = K) {e : Expr} {ta : TA} {p pos tpos : Pos} {elts : List Expr} {kk : Nat} (hg : L2.Gl X "enumerate") (hm : X.mg "enumerate" = none) (ha : PA X [e] ta) (hs : starEach [e] X.env = [(false, eval e X.env)] := by rfl) :
    PI X (.Tuple elts kk tpos) (.Call (.Name "enumerate" p) [e] [] pos) (iEnumT K ta) := by
  subst hKK
  refine ⟨fun pins s σ H R I h => ?_⟩
  refine Call_ (ld_blt I hg hm boot_enumerate (PyProof.Rows.callWith_type1 (thn (ha.run pos pins s σ H _ I h) fun us s1 ⟨vs, H1, I1, r1, q1⟩ => ?_) hs rfl))
  obtain ⟨a, xs, ex, hq, q⟩ := q1
  subst ex
  cases r1 with
  | cons r rr =>
    cases rr
    cases r
    obtain ⟨its, rv, p', hz⟩ := I1.tuple hq
    refine call_enum1 (begins_tuple a its.toArray) (show s1.heap.IsTuple a its.toArray from p') fun h' he hit hk => wpAny_pyIter_enum he ?_
    have I2 : Inv X pins σ H1 { s1 with heap := h' } := I1.kept (t' := s1.toks) hk
    refine ⟨s1.heap.objs.size + 1, [s1.heap.objs.size + 1, s1.heap.objs.size], _, _, H1, rfl, I2, turn_enumT a (s1.heap.objs.size + 1) s1.heap.objs.size, ⟨⟨.none, he⟩, ⟨_, hit, rfl, rfl⟩, Nat.succ_ne_self _⟩, fun b hb => ?_, q⟩
    have e' : b = s1.heap.objs.size + 1 ∨ b = s1.heap.objs.size := by simpa using hb
    have hle : s1.heap.objs.size ≤ b := by
      rcases e' with rfl | rfl
      · exact Nat.le_add_right _ _
      · exact Nat.le_refl _
    exact I1.fpOk hle (I1.hok.fresh hle)
end Ea
set_option Elab.async false
set_option linter.all false
set_option maxRecDepth 100000
set_option maxHeartbeats 1000000
/-! zip of a tuple and a list. -/
namespace Ea
open PySem PySem.Spec PyProof.Rows L2
/-- the tuple at a and the list at b, the items in new pairs -/
def ItzM (K : PySem.W.Frag) (a b : Addr) : It :=
  ⟨fun i H => ∃ (xs ys : List V) (x y : V), SqT K H a xs ∧ SqL K H b ys ∧ xs[i]? = some x ∧ ys[i]? = some y,
    fun i H v H' => ∃ T x y, v = .ref T ∧ H T = none ∧ H' = upd H T (.tup [x, y]) ∧ (∀ xs, SqT K H a xs → xs[i]? = some x) ∧ ∀ ys, SqL K H b ys → ys[i]? = some y,
    fun i H => ∃ xs ys : List V, SqT K H a xs ∧ SqL K H b ys ∧ i ≤ xs.length ∧ i ≤ ys.length ∧ (i = xs.length ∨ i = ys.length)⟩
structure Cells (z TI TO i1 i2 : Addr) : Prop where
  TIz : TI ≠ z
  TOz : TO ≠ z
  TITO : TI ≠ TO
  TIi1 : TI ≠ i1
  TIi2 : TI ≠ i2
  TOi1 : TO ≠ i1
  TOi2 : TO ≠ i2
  zi1 : z ≠ i1
  zi2 : z ≠ i2
  i12 : i1 ≠ i2
theorem cells_sep {h : Heap} {z TI TO i1 i2 a b : Addr} {k1 k2 : Nat} {xs ys : Array Value} {x y : Value} (C : Cells z TI TO i1 i2) (hz : IsZip h z TI TO .none) (hTO : IsTupOf2 h TO x y)
    (h1 : h.IsTupleIter i1 a k1) (h2 : h.IsListIter i2 b k2) (ha : h.IsTuple a xs) (hb : h.IsList b ys) (hTa : TO ≠ a) : ZipSep2 z TI TO i1 i2 [i1, a] [i2, b] ∧ a ≠ i1 ∧ b ≠ i2 := by
  obtain ⟨o1, e1, c1, _⟩ := h1
  obtain ⟨o2, e2, c2, _⟩ := h2
  obtain ⟨oa, ea, ca, _⟩ := ha
  obtain ⟨ob, eb, cb, _⟩ := hb
  have nza : z ≠ a := apart hz ea (by rw [ca]; show Value.type "zip" ≠ Value.type "tuple"; decide)
  have nzb : z ≠ b := apart hz eb (by rw [cb]; show Value.type "zip" ≠ Value.type "list"; decide)
  have nTb : TO ≠ b := apart hTO eb (by rw [cb]; show Value.type "tuple" ≠ Value.type "list"; decide)
  have n1b : i1 ≠ b := apart e1 eb (by rw [c1, cb]; decide)
  have n2a : i2 ≠ a := apart e2 ea (by rw [c2, ca]; decide)
  have na1 : a ≠ i1 := apart ea e1 (by rw [ca, c1]; decide)
  have nb2 : b ≠ i2 := apart eb e2 (by rw [cb, c2]; decide)
  refine ⟨{ TIz := C.TIz, TOz := C.TOz, TITO := C.TITO, TIi1 := C.TIi1, mem1 := by simp, zf1 := ?_, Tf1 := ?_, TIi2 := C.TIi2, mem2 := by simp, zf2 := ?_, Tf2 := ?_, sep1_2 := ?_, sep2_1 := ?_ }, na1, nb2⟩
  · simp [C.zi1, nza]
  · simp [C.TOi1, hTa]
  · simp [C.zi2, nzb]
  · simp [C.TOi2, nTb]
  · simp [C.i12, n1b]
  · simp [C.i12.symm, n2a]
theorem turn_zipM {P : Program} {w : World} {K : PySem.W.Frag} {elts : List Expr} {kk : Nat} {tpos : Pos} {a b z TI TO i1 i2 : Addr} (C : Cells z TI TO i1 i2) (hTa : TO ≠ a) :
    L2.Turn P w K (.Tuple elts kk tpos) (ItzM K a b) [z, TI, TO, i1, i2] z (fun i h => IsZip h z TI TO .none ∧ IsTupOf2 h TI (.ref i1) (.ref i2) ∧ (∃ x y, IsTupOf2 h TO x y) ∧ h.IsTupleIter i1 a i ∧ h.IsListIter i2 b i) where
  mem := by simp
  obj := fun i h st c hc => by
    obtain ⟨hz, hTI, ⟨x, y, hTO⟩, ⟨o1, e1, _, d1⟩, ⟨o2, e2, _, d2⟩⟩ := st
    have e' : c = z ∨ c = TI ∨ c = TO ∨ c = i1 ∨ c = i2 := by simpa using hc
    rcases e' with rfl | rfl | rfl | rfl | rfl
    · exact ⟨_, hz, fun v q => nomatch q⟩
    · exact ⟨_, hTI, fun v q => nomatch q⟩
    · exact ⟨_, hTO, fun v q => nomatch q⟩
    · exact ⟨o1, e1, fun v q => by rw [d1] at q; cases q⟩
    · exact ⟨o2, e2, fun v q => by rw [d2] at q; cases q⟩
  keep := fun i h h' st k => by
    obtain ⟨hz, hTI, ⟨x, y, hTO⟩, h1, h2⟩ := st
    exact ⟨k z (by simp) _ hz, k TI (by simp) _ hTI, ⟨x, y, k TO (by simp) _ hTO⟩, h1.at fun o q => k i1 (by simp) o q, h2.at fun o q => k i2 (by simp) o q⟩
  item := by
    intro X hP hw hK hc i pins s σ H E I hf st hg
    subst hP hw hK
    obtain ⟨hz, hTI, ⟨x0, y0, hTO⟩, h1, h2⟩ := st
    obtain ⟨xs, ys, x, y, hqx, hqy, hx, hy⟩ := hg
    obtain ⟨its, rv, p, _⟩ := I.tuple hqx
    obtain ⟨its2, rv2, p2, _⟩ := I.list hqy
    obtain ⟨u, hu, ru⟩ := rv.get hx
    obtain ⟨u2, hu2, ru2⟩ := rv2.get hy
    have pt : s.heap.IsTuple a its.toArray := p
    obtain ⟨S, na1, nb2⟩ := cells_sep C hz hTO h1 h2 pt p2.isList hTa
    have hzl : z < s.heap.objs.size := Heap.lt_size hz
    have hlt1 : i < its.toArray.size := by
      have := (List.getElem?_eq_some_iff.mp hu).1
      simpa using this
    have hlt2 : i < its2.toArray.size := by
      have := (List.getElem?_eq_some_iff.mp hu2).1
      simpa using this
    refine wpAny_pyNext_zipD2_item S (Draws.tuple (prog := X.prog) (w := X.w) (A := X.A.in1) (I.ok.hd hc) i1 a na1 its.toArray) (Draws.list (prog := X.prog) (w := X.w) (A := X.A.in1) (I.ok.hd hc) i2 b nb2 its2.toArray) hz hTI hTO ⟨h1, pt⟩ ⟨h2, p2.isList⟩ hlt1 hlt2 fun x1 x2 h' tk hP1 hP2 z' TO' st1 st2 hT hsz hk => ?_
    obtain rfl : u = x1 := by
      have q : its[i]? = some x1 := by simpa using hP1
      rw [hu] at q
      exact Option.some.inj q
    obtain rfl : u2 = x2 := by
      have q : its2[i]? = some x2 := by simpa using hP2
      rw [hu2] at q
      exact Option.some.inj q
    refine ⟨_, rfl, wpAny_letOwnedTupleGo_zip (s := { s with heap := h', toks := tk }) z' fun h'' z'' sb => ?_⟩
    have hT2 : h''.get? s.heap.objs.size = some { cls := .type "tuple", data := .seq #[u, u2] } := (sb.2 _ (Nat.ne_of_gt hzl)).trans hT
    have new : ObjOk X.prog X.w (upd H s.heap.objs.size (.tup [x, y])) h'' s.heap.objs.size (.tup [x, y]) :=
      ⟨by show 2 ≤ sizeLine; decide, [u, u2], .cons ru (.cons ru2 .nil), ⟨_, hT2, rfl, _, rfl⟩⟩
    have I1 : Inv X pins σ (upd H s.heap.objs.size (.tup [x, y])) { s with heap := h'', toks := tk } :=
      I.turnedNew (ch := [z, TI, TO, i1, i2]) (fun c o hb q => (sb.2 c (fun q' => hb (by simp [q']))).trans (hk c o (fun q' => hb (by simp [q'])) (fun q' => hb (by simp [q'])) (fun q' => hb (by simp [q'])) (fun q' => hb (by simp [q'])) q)) hf (Nat.le_refl _) new
    refine ⟨.ref s.heap.objs.size, _, I1, rfl, ⟨_, x, y, rfl, I.hok.fresh (Nat.le_refl _), rfl, fun l hl => by rw [I.tuple_inj hl hqx]; exact hx, fun l hl => by rw [I.list_inj hl hqy]; exact hy⟩, ⟨z'', ?_, ⟨u, u2, ?_⟩, ?_, ?_⟩, fun c hcm => ?_⟩
    · exact (sb.2 _ C.TIz).trans (hk _ _ C.TIz C.TITO C.TIi1 C.TIi2 hTI)
    · exact (sb.2 _ C.TOz).trans TO'
    · exact st1.1.at fun o q => (sb.2 _ C.zi1.symm).trans q
    · exact st2.1.at fun o q => (sb.2 _ C.zi2.symm).trans q
    · have hlt : c < s.heap.objs.size := by
        have e' : c = z ∨ c = TI ∨ c = TO ∨ c = i1 ∨ c = i2 := by simpa using hcm
        rcases e' with rfl | rfl | rfl | rfl | rfl
        · exact hzl
        · exact Heap.lt_size hTI
        · exact Heap.lt_size hTO
        · obtain ⟨_, e1, _⟩ := h1
          exact Heap.lt_size e1
        · obtain ⟨_, e2, _⟩ := h2
          exact Heap.lt_size e2
      rw [upd_ne (Nat.ne_of_lt hlt)]
      exact (hf c hcm).1
  done := by
    intro X hP hw hK hc i pins s σ H E I hf st hg
    subst hP hw hK
    obtain ⟨hz, hTI, ⟨x0, y0, hTO⟩, h1, h2⟩ := st
    obtain ⟨xs, ys, hqx, hqy, l1, l2, hend⟩ := hg
    obtain ⟨its, rv, p, _⟩ := I.tuple hqx
    obtain ⟨its2, rv2, p2, _⟩ := I.list hqy
    have pt : s.heap.IsTuple a its.toArray := p
    obtain ⟨S, na1, nb2⟩ := cells_sep C hz hTO h1 h2 pt p2.isList hTa
    have k1 := rv.length
    have k2 := rv2.length
    have m1 : i ≤ its.toArray.size := by rw [List.size_toArray]; omega
    have m2 : i ≤ its2.toArray.size := by rw [List.size_toArray]; omega
    have m3 : i = its.toArray.size ∨ i = its2.toArray.size := by rw [List.size_toArray, List.size_toArray]; omega
    exact wpAny_pyNext_zipD2_end S (Draws.tuple (prog := X.prog) (w := X.w) (A := X.A.in1) (I.ok.hd hc) i1 a na1 its.toArray) (Draws.list (prog := X.prog) (w := X.w) (A := X.A.in1) (I.ok.hd hc) i2 b nb2 its2.toArray) hz hTI hTO ⟨h1, pt⟩ ⟨h2, p2.isList⟩ m1 m2 m3 fun h' tk hk => ⟨rfl, I.turnedL (t' := tk) (ch := [z, TI, TO, i1, i2]) (fun c o hb q =>
      hk c o (fun q' => hb (by simp [q'])) (fun q' => hb (by simp [q'])) (fun q' => hb (by simp [q'])) (fun q' => hb (by simp [q'])) q) hf⟩
  self := fun A i s Q E st h => wpAny_pyIter_zip st.1 h
def iZipM (K : PySem.W.Frag) (ta : TA) : TI := fun σ H R => ta σ H fun vs H1 => ∃ a b xs ys, vs = [.ref a, .ref b] ∧ SqT K H1 a xs ∧ SqL K H1 b ys ∧ R (ItzM K a b) H1
theorem pi_zipM {X : Cx} {K : PySem.W.Frag} (hKK : X.K = K) {e e2 : Expr} {ta : TA} {p pos tpos : Pos} {elts : List Expr} {kk : Nat} (hg : L2.Gl X "zip") (hm : X.mg "zip" = none) (ha : PA X [e, e2] ta)
    (hs : starEach [e, e2] X.env = (false, eval e X.env) :: starEach [e2] X.env := by rfl) (hpl : (backTo pos (starEach [e2] X.env)).any (·.1) = false := by rfl) :
    PI X (.Tuple elts kk tpos) (.Call (.Name "zip" p) [e, e2] [] pos) (iZipM K ta) := by
  subst hKK
  refine ⟨fun pins s σ H R I h => ?_⟩
  refine Call_ (ld_blt I hg hm PyProof.Rows.boot_zip (PyProof.Rows.callWith_type1 (thn (ha.run pos pins s σ H _ I h) fun us s1 ⟨vs, H1, I1, r1, q1⟩ => ?_) hs hpl))
  obtain ⟨a, b, xs, ys, ex, hqx, hqy, q⟩ := q1
  subst ex
  cases r1 with
  | cons r rr =>
    cases rr with
    | cons r' rr =>
      cases rr
      cases r
      cases r'
      obtain ⟨its, rv, p1, _⟩ := I1.tuple hqx
      obtain ⟨its2, rv2, p2, _⟩ := I1.list hqy
      obtain ⟨o1, ho1, _⟩ := id p1
      refine zip_begins2 (begins_tuple a its.toArray) (begins_list b its2.toArray) (show s1.heap.IsTuple a its.toArray from p1) p2.isList fun h' hz hTI hTO h1 h2 hsz hk => wpAny_pyIter_zip hz ?_
      have I2 : Inv X pins σ H1 { s1 with heap := h' } := I1.kept (t' := s1.toks) hk
      have C : Cells (s1.heap.objs.size + 4) (s1.heap.objs.size + 2) (s1.heap.objs.size + 3) s1.heap.objs.size (s1.heap.objs.size + 1) := by
        constructor <;> (intro e; have e : (_ : Nat) = _ := e; omega)
      have hTa : (s1.heap.objs.size + 3 : Nat) ≠ a := Nat.ne_of_gt (Nat.lt_of_lt_of_le (Heap.lt_size ho1) (Nat.le_add_right _ _))
      refine ⟨s1.heap.objs.size + 4, [s1.heap.objs.size + 4, s1.heap.objs.size + 2, s1.heap.objs.size + 3, s1.heap.objs.size, s1.heap.objs.size + 1], _, _, H1, rfl, I2, turn_zipM C hTa, ⟨hz, hTI, ⟨_, _, hTO⟩, ⟨_, h1, rfl, rfl⟩, ⟨_, h2, rfl, rfl⟩⟩, fun c hcm => ?_, q⟩
      have e' : c = s1.heap.objs.size + 4 ∨ c = s1.heap.objs.size + 2 ∨ c = s1.heap.objs.size + 3 ∨ c = s1.heap.objs.size ∨ c = s1.heap.objs.size + 1 := by simpa using hcm
      have hle : s1.heap.objs.size ≤ c := by
        rcases e' with rfl | rfl | rfl | rfl | rfl
        · exact Nat.le_add_right _ _
        · exact Nat.le_add_right _ _
        · exact Nat.le_add_right _ _
        · exact Nat.le_refl _
        · exact Nat.le_add_right _ _
      exact I1.fpOk hle (I1.hok.fresh hle)
end Ea
set_option Elab.async false
set_option linter.all false
set_option maxRecDepth 100000
set_option maxHeartbeats 400000
/-! Comprehensions over pairs, where nothing else is changed. -/
namespace Ea
open PySem PySem.Spec PyProof.Rows L2
section
variable {K : PySem.W.Frag} {σ : L2.St} {H : Hp} {Q : VK} {tt : TT} {te : TE} {vs : List Nat} {j1 j2 k : Nat} {σx : V → V → L2.St} {a b : Addr} {n : Nat} {px py : Nat → V} {f : Nat → Bool} {g : Nat → V} {J : It}
theorem range_snoc (f : Nat → Bool) (g : Nat → V) (i : Nat) : ((List.range (i + 1)).filter f).map g = ((List.range i).filter f).map g ++ (if f i = true then [g i] else []) := by
  rw [List.range_succ, List.filter_append, List.map_append]
  congr 1
  by_cases h : f i = true
  · rw [if_pos h, List.filter_cons, if_pos h] <;> rfl
  · rw [if_neg h, List.filter_cons, if_neg h] <;> rfl
abbrev TurnP (H : Hp) (tt : TT) (te : TE) (σx : V → V → L2.St) (px py : Nat → V) (f : Nat → Bool) (g : Nat → V) (i : Nat) : Prop :=
  ∀ (H' : Hp) (N : VK) (S : Hp → Prop), Evl.Ex H H' → (f i = true → ∀ H3, Evl.Ex H' H3 → N (g i) H3) → (f i = false → ∀ H3, Evl.Ex H' H3 → S H3) →
    tt (σx (px i) (py i)) H' fun b H2 => if b = true then te (σx (px i) (py i)) H2 N else S H2
theorem lc_pairs (hk : k = 2) (hz : n ≤ 40000) (go : ∀ i H', Evl.Ex H H' → i < n → J.go i H') (stop : ∀ H', Evl.Ex H H' → J.stop n H')
    (yld : ∀ i H1 x H2, Evl.Ex H H1 → i < n → J.yld i H1 x H2 → ∃ T, x = .ref T ∧ H1 T = none ∧ H2 = upd H1 T (.tup [px i, py i]))
    (hσ : ∀ x y, ((wipe σ vs).set j1 (some x)).set j2 (some y) = σx x y) (hw : ∀ x y, wipe (σx x y) vs = wipe σ vs)
    (hs : ∀ i, i < n → TurnP H tt te σx px py f g i)
    (hd : ∀ D H', Evl.Ex H H' → H D = none → H' D = some (.lst (((List.range n).filter f).map g)) → Q (.ref D) H') : LcR (gTup K k (gCons (gName j1) (gCons (gName j2) gNil))) tt te vs σ Q J H := fun D hn => by
  refine ⟨fun i m H' => i + m = n ∧ Evl.Ex H H' ∧ H' D = some (.lst (((List.range i).filter f).map g)), ⟨n, by omega, Evl.Ex.new hn, upd_same⟩, fun i m H' hW => ?_⟩
  obtain ⟨em, e, ed⟩ := hW
  have hlen : (((List.range i).filter f).map g).length < 100000 := by
    rw [List.length_map]
    have h1 := List.length_filter_le f (List.range i)
    rw [List.length_range] at h1
    omega
  by_cases hi : i < n
  · refine .inr ⟨go i H' e hi, fun H3 => Evl.Ex H H3 ∧ H3 D = some (.lst (((List.range (i + 1)).filter f).map g)), fun H3 h3 => ⟨m - 1, by omega, by omega, h3⟩, fun x H2 hy => ?_⟩
    obtain ⟨T, rfl, hT, rfl⟩ := yld i H' x H2 e hi hy
    have eT := Evl.Ex.new (o := .tup [px i, py i]) hT
    refine rd_gtup2 (x := px i) (y := py i) (SqT.of upd_same) hk (hσ _ _) ⟨hw _ _, hs i hi _ _ _ (e.trans eT) (fun hf H3 e3 => ?_) fun hf H3 e3 => ?_⟩
    · refine ⟨_, e3 D _ (eT D _ ed), Evl.sz_lt hlen, Evl.Ex.mut ((e.trans eT).trans e3) hn, ?_⟩
      rw [upd_same, range_snoc, if_pos hf]
    · refine ⟨(e.trans eT).trans e3, ?_⟩
      rw [range_snoc, if_neg (by rw [hf]; decide), List.append_nil]
      exact e3 D _ (eT D _ ed)
  · have hin : i = n := by omega
    subst hin
    exact .inl ⟨stop H' e, hd D H' e hn ed⟩
theorem lc_enumT {xs : List V} (hk : k = 2) (hx : SqT K H a xs) (hz : xs.length ≤ 40000) (hσ : ∀ x y, ((wipe σ vs).set j1 (some x)).set j2 (some y) = σx x y) (hw : ∀ x y, wipe (σx x y) vs = wipe σ vs)
    (f : Nat → Bool) (g : Nat → V) (hs : ∀ i, i < xs.length → TurnP H tt te σx (fun i => .int (i : Nat)) (fun i => xs.getD i .non) f g i)
    (hd : ∀ D H', Evl.Ex H H' → H D = none → H' D = some (.lst (((List.range xs.length).filter f).map g)) → Q (.ref D) H') : LcR (gTup K k (gCons (gName j1) (gCons (gName j2) gNil))) tt te vs σ Q (IteT K a) H :=
  lc_pairs hk hz (fun i H' e hi => ⟨xs, xs[i], Evl.ex_t e hx, List.getElem?_eq_getElem hi⟩) (fun H' e => ⟨xs, Evl.ex_t e hx, rfl⟩)
    (fun i H1 x H2 e hi hy => by
      obtain ⟨T, y, rfl, hT, rfl, h⟩ := hy
      have := h xs (Evl.ex_t e hx)
      refine ⟨T, rfl, hT, ?_⟩
      show _ = upd H1 T (.tup [.int (i : Nat), xs.getD i .non])
      rw [List.getD_eq_getElem?_getD, this] <;> rfl) hσ hw hs hd
theorem lc_enumL {xs : List V} (hk : k = 2) (hx : SqL K H a xs) (hz : xs.length ≤ 40000) (hσ : ∀ x y, ((wipe σ vs).set j1 (some x)).set j2 (some y) = σx x y) (hw : ∀ x y, wipe (σx x y) vs = wipe σ vs)
    (f : Nat → Bool) (g : Nat → V) (hs : ∀ i, i < xs.length → TurnP H tt te σx (fun i => .int (i : Nat)) (fun i => xs.getD i .non) f g i)
    (hd : ∀ D H', Evl.Ex H H' → H D = none → H' D = some (.lst (((List.range xs.length).filter f).map g)) → Q (.ref D) H') : LcR (gTup K k (gCons (gName j1) (gCons (gName j2) gNil))) tt te vs σ Q (Ite K a) H :=
  lc_pairs hk hz (fun i H' e hi => ⟨xs, xs[i], Evl.ex_l e hx, List.getElem?_eq_getElem hi⟩) (fun H' e => ⟨xs, Evl.ex_l e hx, Nat.le_refl _⟩)
    (fun i H1 x H2 e hi hy => by
      obtain ⟨T, y, rfl, hT, rfl, h⟩ := hy
      have := h xs (Evl.ex_l e hx)
      refine ⟨T, rfl, hT, ?_⟩
      show _ = upd H1 T (.tup [.int (i : Nat), xs.getD i .non])
      rw [List.getD_eq_getElem?_getD, this] <;> rfl) hσ hw hs hd
theorem lc_zipM {xs ys : List V} (hk : k = 2) (hx : SqT K H a xs) (hy : SqL K H b ys) (hl : xs.length = ys.length) (hz : xs.length ≤ 40000) (hσ : ∀ x y, ((wipe σ vs).set j1 (some x)).set j2 (some y) = σx x y) (hw : ∀ x y, wipe (σx x y) vs = wipe σ vs)
    (f : Nat → Bool) (g : Nat → V) (hs : ∀ i, i < xs.length → TurnP H tt te σx (fun i => xs.getD i .non) (fun i => ys.getD i .non) f g i)
    (hd : ∀ D H', Evl.Ex H H' → H D = none → H' D = some (.lst (((List.range xs.length).filter f).map g)) → Q (.ref D) H') : LcR (gTup K k (gCons (gName j1) (gCons (gName j2) gNil))) tt te vs σ Q (ItzM K a b) H :=
  lc_pairs hk hz (fun i H' e hi => ⟨xs, ys, xs[i], ys[i]'(hl ▸ hi), Evl.ex_t e hx, Evl.ex_l e hy, List.getElem?_eq_getElem hi, List.getElem?_eq_getElem (hl ▸ hi)⟩)
    (fun H' e => ⟨xs, ys, Evl.ex_t e hx, Evl.ex_l e hy, Nat.le_refl _, by omega, .inl rfl⟩)
    (fun i H1 x H2 e hi hq => by
      obtain ⟨T, u, v, rfl, hT, rfl, h1, h2⟩ := hq
      have q1 := h1 xs (Evl.ex_t e hx)
      have q2 := h2 ys (Evl.ex_l e hy)
      refine ⟨T, rfl, hT, ?_⟩
      show _ = upd H1 T (.tup [xs.getD i .non, ys.getD i .non])
      rw [List.getD_eq_getElem?_getD, q1, List.getD_eq_getElem?_getD, q2] <;> rfl) hσ hw hs hd
variable {R : It → Hp → Prop} {ta : TA}
theorem rd_iRng2 (h : ta σ H fun vs H1 => ∃ i j : Int, vs = [.int i, .int j] ∧ (-(2 ^ 62) ≤ i ∧ i < 2 ^ 62 ∧ -(2 ^ 62) ≤ j ∧ j < 2 ^ 62) ∧ R (Itr i (j - i).toNat) H1) : iRng2 ta σ H R := h
theorem rd_iEnumT (h : ta σ H fun vs H1 => ∃ a xs, vs = [.ref a] ∧ SqT K H1 a xs ∧ R (IteT K a) H1) : iEnumT K ta σ H R := h
theorem rd_iEnum (h : ta σ H fun vs H1 => ∃ a xs, vs = [.ref a] ∧ SqL K H1 a xs ∧ R (Ite K a) H1) : iEnum K ta σ H R := h
theorem rd_iZipM (h : ta σ H fun vs H1 => ∃ a b xs ys, vs = [.ref a, .ref b] ∧ SqT K H1 a xs ∧ SqL K H1 b ys ∧ R (ItzM K a b) H1) : iZipM K ta σ H R := h
end
section
variable {X : Cx} {K : PySem.W.Frag}
theorem pi_enumL (hKK : X.K = K) {e : Expr} {ta : TA} {p pos tpos : Pos} {elts : List Expr} {kk : Nat} (hg : L2.Gl X "enumerate") (hm : X.mg "enumerate" = none) (ha : PA X [e] ta) (hs : starEach [e] X.env = [(false, eval e X.env)] := by rfl) :
    PI X (.Tuple elts kk tpos) (.Call (.Name "enumerate" p) [e] [] pos) (iEnum K ta) := hKK ▸ pi_enum hg hm ha hs
theorem pgk_tup (hKK : X.K = K) {pos : Pos} {es : List Expr} {k : Nat} {t : TGs} {n : Nat} (hc : X.calm = true) (h : PGs X es t)
    (hn : (assignEach es X.env).length = n := by rfl) (hst : (assignEach es X.env).findIdx? (·.1) = none := by rfl) : PG X (.Tuple es k pos) (gTup K n t) := hKK ▸ pg_tup hc h hn hst
end
end Ea
set_option Elab.async false
set_option linter.all false
set_option maxRecDepth 100000
set_option maxHeartbeats 400000
namespace KA
open PySem PySem.Spec PyProof.Rows L2 Ea
def topS (i : Nat) : Stmt := PySem.Challenge.pw_eachsome_k02_whole_clauses_owners_and_le.main.body.getD i (.Pass ⟨0, 0, 0, 0⟩)
abbrev s_law_draw : Stmt := topS 9
theorem sc_law_draw : FnScope ["deck", "many", "cell", "found", "turn"] ["deck", "many"] (defScope s_law_draw) :=
  ⟨rfl, rfl, rfl, by decide +kernel, rfl, by decide +kernel, by decide +kernel⟩
abbrev s_law_pick : Stmt := topS 10
theorem sc_law_pick : FnScope ["deck", "items"] ["deck", "items"] (defScope s_law_pick) :=
  ⟨rfl, rfl, rfl, by decide +kernel, rfl, by decide +kernel, by decide +kernel⟩
abbrev s_law_mixed : Stmt := topS 11
theorem sc_law_mixed : FnScope ["deck", "items", "left", "found"] ["deck", "items"] (defScope s_law_mixed) :=
  ⟨rfl, rfl, rfl, by decide +kernel, rfl, by decide +kernel, by decide +kernel⟩
abbrev s_law_deck : Stmt := topS 8
theorem sc_law_deck : FnScope ["script", "cell", "cells", "mixed"] ["script"] (defScope s_law_deck) :=
  ⟨rfl, rfl, rfl, by decide +kernel, rfl, by decide +kernel, by decide +kernel⟩
local macro_rules | `(tactic| walk_at "rd") => `(tactic| first
  | (with_reducible refine rd_seq ?_) | (with_reducible refine rd_asg ?_) | (with_reducible refine rd_if ?_) | (with_reducible refine rd_ret ?_) | (with_reducible refine rd_next ?_)
  | (with_reducible refine rd_drop ?_) | ((with_reducible refine rd_name (σ' := ?ss) ?hs ?_); (case hs => (dsimp only [List.set]; exact rfl)))
  | ((with_reducible refine rd_var (v := ?vv) ?hv ?_); (case hv => exact rfl)) | (with_reducible refine rd_c ?_) | (with_reducible refine rd_op ?_) | (with_reducible refine rd_un ?_)
  | (with_reducible refine rd_I0 ?_) | (with_reducible refine rd_U ?_) | (with_reducible refine rd_test ?_) | (with_reducible refine rd_B ?_) | (with_reducible refine rd_k ?_)
  | (with_reducible refine rd_not ?_) | (with_reducible refine rd_and ?_) | (with_reducible refine rd_or ?_) | (with_reducible refine rd_ifE ?_)
  | (with_reducible refine rd_par ?_) | ((with_reducible refine rd_par2 (σ' := ?ss) ?hs ?_); (case hs => (dsimp only [List.set]; exact rfl)))
  | (with_reducible refine rd_gsub ?_) | (with_reducible refine rd_andV ?_) | (with_reducible refine rd_orV ?_) | (with_reducible refine rd_notV ?_)
  | (with_reducible refine rd_lc ?_) | (with_reducible refine rd_iTup ?_) | (with_reducible refine rd_iList ?_) | (with_reducible refine rd_iRng1 ?_)
  | (with_reducible refine rd_yes ?_) | (with_reducible refine rd_true ?_) | (with_reducible refine rd_false ?_) | (with_reducible refine rd_m1 ?_) | (with_reducible refine rd_isS ?_)
  | ((with_reducible refine rd_eq ?hs ?_); (case hs => exact rfl)) | ((with_reducible refine rd_ne ?hs ?_); (case hs => exact rfl))
  | (with_reducible refine rd_listRg ?_) | (with_reducible refine rd_rg2 ?_) | (with_reducible refine rd_rgk ?_)
  | (with_reducible refine rd_dnew ?_) | (with_reducible refine rd_ddel ?_) | (with_reducible refine rd_kw ?_) | (with_reducible refine rd_callS ?_) | (with_reducible refine rd_dc ?_) | (with_reducible refine rd_for ?_) | (with_reducible refine rd_tru ?_) | (with_reducible refine rd_truI ?_)
  | (with_reducible refine rd_nil ?_) | (with_reducible refine rd_cons ?_) | (with_reducible refine rd_call ?_) | (with_reducible refine rd_cb ?_)
  | (with_reducible refine rd_tup ?_) | (with_reducible refine rd_lst ?_) | (with_reducible refine rd_dget ?_) | (with_reducible refine rd_dput ?_) | (with_reducible refine rd_sl ?_)
  | (with_reducible refine rd_nopart ?_) | (with_reducible refine rd_part ?_) | (with_reducible refine rd_parti ?_) | (with_reducible refine rd_bm ?_) | (with_reducible refine rd_bm0 ?_)
  | (with_reducible refine rd_int ?_) | (with_reducible refine rd_intb ?_) | (with_reducible refine rd_abs ?_) | (with_reducible refine rd_min2 ?_) | (with_reducible refine rd_max2 ?_))
local macro_rules | `(tactic| walk_at "rds") => `(tactic| repeat (walk_at "rd"))

/-- the names of the built-ins that the text does not bind -/
structure Bl (mg : Str → Option Value) : Prop where
  len : mg "len" = none
  abs : mg "abs" = none
  min : mg "min" = none
  max : mg "max" = none
  sorted : mg "sorted" = none
  tuple : mg "tuple" = none
  list : mg "list" = none
  set : mg "set" = none
  int : mg "int" = none
  range : mg "range" = none
  repr : mg "repr" = none
  isinstance : mg "isinstance" = none
  enumerate : mg "enumerate" = none
  zip : mg "zip" = none
  sum : mg "sum" = none
/-- how a def stands among the module's names -/
structure Callee (K : PySem.W.Frag) (mg : Str → Option Value) (x : Str) (f : Addr) (fd : FuncData) (ps : List Str) : Prop where
  m : mg x = some (.ref f)
  k : PySem.W.keepIn K (.ref f) = true
  b : Binds K fd ps []
theorem SetFor_erase {as : List Int} {k : Nat} : (some (HO.lst ((as.map V.int).eraseIdx k)) : Option HO) = some (.lst ((as.eraseIdx k).map V.int)) := by
  rw [erase_mapI]
theorem erase_perm {as : List Int} {k : Nat} (h : k < as.length) : as.Perm (as[k] :: as.eraseIdx k) := by
  induction as generalizing k with
  | nil => cases h
  | cons x r ih =>
    cases k with
    | zero => exact List.Perm.refl _
    | succ k =>
      have h' : k < r.length := Nat.lt_of_succ_lt_succ h
      exact ((ih h').cons x).trans (List.Perm.swap _ _ _)
theorem perm_move (as bs : List Int) (x : Int) : (as ++ (bs ++ [x])).Perm ((x :: as) ++ bs) := by
  rw [← List.append_assoc]
  exact (List.perm_append_singleton x (as ++ bs)).trans (List.Perm.refl _)
section
variable {K : PySem.W.Frag} {H : Hp} {Q : VK} {d l : Addr} {m c k : Int} {xs : List V} {y : V} {i : Int}
theorem dk0 (h : H d = some (.lst [.ref l, .int m, .int c])) (q : Q (.ref l) H) : rIxL K (.ref d) (.int 0) H Q := rd_ixL (SqL.of h) rfl q
theorem dk1 (h : H d = some (.lst [.ref l, .int m, .int c])) (q : Q (.int m) H) : rIxL K (.ref d) (.int 1) H Q := rd_ixL (SqL.of h) rfl q
theorem dk2 (h : H d = some (.lst [.ref l, .int m, .int c])) (q : Q (.int c) H) : rIxL K (.ref d) (.int 2) H Q := rd_ixL (SqL.of h) rfl q
theorem dk_set2 {N : Hp → Prop} (h : H d = some (.lst [.ref l, .int m, .int c])) (q : N (upd H d (.lst [.ref l, .int m, .int k]))) : rSetL (.ref d) (.int 2) (.int k) H N := ⟨d, _, 2, 2, rfl, rfl, h, rfl, q⟩
theorem rd_listE {p : Addr} {ys : List V} (s : SqL K H p ys ∨ SqT K H p ys) (h : ∀ l, H l = none → Q (.ref l) (upd H l (.lst ys))) : rListOf K [.ref p] H Q := s.elim (fun s => rd_listL s h) fun s => rd_listT s h
end
section
variable {P : Program} {w : World} {K : PySem.W.Frag} {mg : Str → Option Value} {base : Heap}
def spDraw : Sp := fun vs H Q _ => ∃ (d l : Addr) (many : Int), vs = [.ref d, .int many] ∧ DeckL d l H ∧ 1 ≤ many ∧ many ≤ 1000000 ∧
  ∀ (r : Int) (H' : Hp), Gl d l H H' → 0 ≤ r → r < many → Q (.int r) H'
theorem ok_draw {f : Addr} {fd : FuncData} (F : Fun K "_law_draw" "_law_draw" s_law_draw f fd) (T : Bl mg) : FnOk P w K mg base CX0 1 f fd ["deck", "many"] spDraw := by
  refine F.ok sc_law_draw (fun vs H Q E h => ?_) (fun cdv A outer s H vs Q E hr h => ?_)
  · obtain ⟨d, l, many, rfl, _⟩ := h
    rfl
  · obtain ⟨d, l, many, rfl, hD, h1, h2, q⟩ := h
    refine ⟨_, (pss_cons (ps_if (PW.pt (pw_and (pt_cmpR (ok_neD (K := K) rfl hr.units) (pe_ix (ik_list (K := K) rfl) (pv 0) pe_int (fun _ _ => rfl)) (pe_lst pa_nil) (nomark _)) (pw_and1 (pt_cmpR op_gt (pv 1) pe_int (nomark _))))) (pss_cons (ps_set (i := 2) sc_law_draw.nd rfl (Or.inl rfl) (pe_bm PySem.F.plainAttrs_list PySem.F.slot_list_pop PySem.F.type_list_pop mt_popAt (pe_ix (ik_list (K := K) rfl) (pv 0) pe_int (fun _ _ => rfl)) (pa_cons pe_int pa_nil)))
 (pss_cons (ps_if (pt_cmpR op_ge (pv 2) (pv 1) (nomark _)) (pss_one (ps_expr (pe_bm PySem.F.plainAttrs_list PySem.F.slot_list_insert PySem.F.type_list_insert mt_insert (pe_ix (ik_list (K := K) rfl) (pv 0) pe_int (fun _ _ => rfl)) (pa_cons pe_int (pa_cons (pe_op op_fdiv (pv 2) (pv 1)) pa_nil))))) pss_nil)
 (pss_one (ps_ret (pe_op op_mod (pe_callTy c_int (by rfl) T.int (by decide +kernel) (pa_cons (pv 2) pa_nil)) (pv 1)))))) pss_nil)
 (pss_cons (ps_asg (pe_op op_add (pe_ix (ik_list (K := K) rfl) (pv 0) pe_int (fun _ _ => rfl)) pe_int) (pg_sub (pv 0) pe_int set_list))
 (pss_cons (ps_set (i := 3) sc_law_draw.nd rfl (Or.inl rfl) (pe_op op_mod (pe_callTy c_int (by rfl) T.int (by decide +kernel) (pa_cons (pe_op op_add (pe_ix (ik_list (K := K) rfl) (pv 0) pe_int (fun _ _ => rfl)) (pe_op op_mul pe_int (pe_ix (ik_list (K := K) rfl) (pv 0) pe_int (fun _ _ => rfl)))) pa_nil)) pe_int))
 (pss_cons (ps_for PassesOwn.never rfl (pi_range1 (by rfl) T.range (pa_cons pe_int pa_nil)) (pg_name (i := 4) sc_law_draw.nd rfl (Or.inl rfl)) (pss_one (ps_set (i := 3) sc_law_draw.nd rfl (Or.inl rfl) (pe_op op_mod (pe_callTy c_int (by rfl) T.int (by decide +kernel) (pa_cons (pe_op op_add (pe_op op_add (pe_op op_add (pe_op op_mul (pv 3) (pv 3)) (pe_op op_mul pe_int (pe_ix (ik_list (K := K) rfl) (pv 0) pe_int (fun _ _ => rfl)))) pe_int) (pv 4)) pa_nil)) pe_int))))
 (pss_one (ps_ret (pe_op op_mod (pe_callTy c_int (by rfl) T.int (by decide +kernel) (pa_cons (pe_op op_fdiv (pv 3) pe_int) pa_nil)) (pv 1)))))))), ?_⟩
    refine rd_start (σ' := [some (.ref d), some (.int many), none, none, none]) rfl ?_
    obtain ⟨ns, m, c, e1, e2, hl, hp, s0, s1⟩ := id hD
    have hdl := hD.ne
    walk_at "rds"
    refine dk0 e1 ?_
    walk_at "rds"
    refine ⟨Nat.zero_le _, fun p hp0 => ?_⟩
    obtain ⟨n1, n2⟩ := hD.off hp0
    have f1 : (upd H p (.lst [])) d = _ := (upd_ne n1.symm).trans e1
    have f2 : (upd H p (.lst [])) l = _ := (upd_ne n2.symm).trans e2
    refine rd_full (SqL.of f2) (dp_ints ns) (shaped_ints ns) (SqL.of upd_same) ?_
    walk_at "rds"
    refine rd_iteb (fun c2 => ?_) (fun c2 => ?_)
    · walk_at "rds"
      refine rd_ite (fun c3 => ?_) (fun c3 => ?_)
      · obtain ⟨z, r, rfl⟩ : ∃ z r, ns = z :: r := by
          cases ns with
          | nil => cases c2
          | cons z r => exact ⟨z, r, rfl⟩
        have z0 : 0 ≤ z := hp z List.mem_cons_self
        have hr0 : ∀ n ∈ r, 0 ≤ n := fun n hn => hp n (List.mem_cons_of_mem _ hn)
        have hrl : r.length + 1 ≤ 63 := hl
        walk_at "rds"
        refine dk0 f1 (rd_tyL f2 ?_)
        walk_at "rds"
        refine rd_popAt (k := 0) f2 rfl rfl (by rw [List.length_map]; show r.length + 1 ≤ _; omega) ?_
        have g1 : (upd (upd H p (.lst [])) l (.lst (((z :: r).map V.int).eraseIdx 0))) d = _ := (upd_ne hdl).trans f1
        have g2 : (upd (upd H p (.lst [])) l (.lst (((z :: r).map V.int).eraseIdx 0))) l = some (.lst (r.map V.int)) := upd_same
        walk_at "rds"
        refine rd_ite (fun c4 => ?_) (fun c4 => ?_)
        · walk_at "rds"
          refine dk0 g1 (rd_tyL g2 ?_)
          walk_at "rds"
          refine rd_I ⟨by omega, by omega⟩ ?_
          walk_at "rds"
          refine ⟨l, _, 0, _, rfl, rfl, g2, Evl.sz_lt (by rw [List.length_map]; omega), Int.le_refl _, by decide, ?_⟩
          walk_at "rds"
          refine rd_I (by omega) ?_
          have hq : 0 ≤ z / many := Int.ediv_nonneg z0 (by omega)
          refine q (z % many) _ ⟨⟨z / many :: r, m, c, (upd_ne hdl).trans g1, upd_same, hrl, fun n hn => ?_, s0, s1⟩, fun a o m1 m2 e => ?_⟩ (Int.emod_nonneg _ (by omega)) (Int.emod_lt_of_pos _ (by omega))
          · rcases List.mem_cons.mp hn with rfl | h
            · exact hq
            · exact hr0 n h
          · rw [upd_ne m2, upd_ne m2, upd_ne (ne_of_none e hp0)]
            exact e
        · walk_at "rds"
          refine rd_I (by omega) ?_
          refine q (z % many) _ ⟨⟨r, m, c, g1, g2, by omega, hr0, s0, s1⟩, fun a o m1 m2 e => ?_⟩ (Int.emod_nonneg _ (by omega)) (Int.emod_lt_of_pos _ (by omega))
          rw [upd_ne m2, upd_ne (ne_of_none e hp0)]
          exact e
      · walk_at "rds"
        refine dk2 f1 ?_
        walk_at "rds"
        refine dk_set2 f1 ?_
        have k1 : ∀ {k : Int}, (upd (upd H p (.lst [])) d (.lst [.ref l, .int m, .int k])) d = _ := fun {k} => upd_same
        have k2 : ∀ {k : Int}, (upd (upd H p (.lst [])) d (.lst [.ref l, .int m, .int k])) l = _ := fun {k} => (upd_ne hdl.symm).trans f2
        walk_at "rds"
        refine dk1 k1 ?_
        walk_at "rds"
        refine dk2 k1 ?_
        walk_at "rds"
        refine rd_I (.inl ⟨by decide, by decide⟩) ?_
        walk_at "rds"
        refine rd_I (by decide) ?_
        walk_at "rds"
        refine rd_rng1 (by decide) (by decide) ?_
        refine fr_range (lo := 0) (n := 2) (fun i σ' H' => ∃ (x : Int) (y : Option V), σ' = [some (.ref d), some (.int many), none, some (.int x), y] ∧ H' = upd (upd H p (.lst [])) d (.lst [.ref l, .int m, .int (c + 1)]) ∧ 0 ≤ x ∧ x < 4294967296) ⟨_, _, rfl, rfl, Int.emod_nonneg _ (by decide), by omega⟩ (fun i σ' H' hi hP => ?_) fun σ' H' hP => ?_
        · obtain ⟨x, y, rfl, rfl, x0, x1⟩ := hP
          refine rd_start (σ' := [some (.ref d), some (.int many), none, some (.int x), some (.int (0 + (i : Int)))]) rfl ?_
          walk_at "rds"
          refine rd_I (.inl ⟨by omega, by omega⟩) ?_
          walk_at "rds"
          refine dk2 k1 ?_
          walk_at "rds"
          refine rd_I (.inl ⟨by decide, by decide⟩) ?_
          walk_at "rds"
          refine rd_I (by decide) ?_
          walk_at "rds"
          exact ⟨_, _, rfl, rfl, Int.emod_nonneg _ (by decide), by omega⟩
        · obtain ⟨x, y, rfl, rfl, x0, x1⟩ := hP
          walk_at "rds"
          refine rd_I ⟨by decide, by decide⟩ ?_
          walk_at "rds"
          refine rd_I (by omega) ?_
          refine q _ _ ⟨⟨ns, m, c + 1, k1, k2, hl, hp, s0, s1⟩, fun a o m1 m2 e => ?_⟩ (Int.emod_nonneg _ (by omega)) (Int.emod_lt_of_pos _ (by omega))
          rw [upd_ne m1, upd_ne (ne_of_none e hp0)]
          exact e
    · walk_at "rds"
      refine dk2 f1 ?_
      walk_at "rds"
      refine dk_set2 f1 ?_
      have k1 : ∀ {k : Int}, (upd (upd H p (.lst [])) d (.lst [.ref l, .int m, .int k])) d = _ := fun {k} => upd_same
      have k2 : ∀ {k : Int}, (upd (upd H p (.lst [])) d (.lst [.ref l, .int m, .int k])) l = _ := fun {k} => (upd_ne hdl.symm).trans f2
      walk_at "rds"
      refine dk1 k1 ?_
      walk_at "rds"
      refine dk2 k1 ?_
      walk_at "rds"
      refine rd_I (.inl ⟨by decide, by decide⟩) ?_
      walk_at "rds"
      refine rd_I (by decide) ?_
      walk_at "rds"
      refine rd_rng1 (by decide) (by decide) ?_
      refine fr_range (lo := 0) (n := 2) (fun i σ' H' => ∃ (x : Int) (y : Option V), σ' = [some (.ref d), some (.int many), none, some (.int x), y] ∧ H' = upd (upd H p (.lst [])) d (.lst [.ref l, .int m, .int (c + 1)]) ∧ 0 ≤ x ∧ x < 4294967296) ⟨_, _, rfl, rfl, Int.emod_nonneg _ (by decide), by omega⟩ (fun i σ' H' hi hP => ?_) fun σ' H' hP => ?_
      · obtain ⟨x, y, rfl, rfl, x0, x1⟩ := hP
        refine rd_start (σ' := [some (.ref d), some (.int many), none, some (.int x), some (.int (0 + (i : Int)))]) rfl ?_
        walk_at "rds"
        refine rd_I (.inl ⟨by omega, by omega⟩) ?_
        walk_at "rds"
        refine dk2 k1 ?_
        walk_at "rds"
        refine rd_I (.inl ⟨by decide, by decide⟩) ?_
        walk_at "rds"
        refine rd_I (by decide) ?_
        walk_at "rds"
        exact ⟨_, _, rfl, rfl, Int.emod_nonneg _ (by decide), by omega⟩
      · obtain ⟨x, y, rfl, rfl, x0, x1⟩ := hP
        walk_at "rds"
        refine rd_I ⟨by decide, by decide⟩ ?_
        walk_at "rds"
        refine rd_I (by omega) ?_
        refine q _ _ ⟨⟨ns, m, c + 1, k1, k2, hl, hp, s0, s1⟩, fun a o m1 m2 e => ?_⟩ (Int.emod_nonneg _ (by omega)) (Int.emod_lt_of_pos _ (by omega))
        rw [upd_ne m1, upd_ne (ne_of_none e hp0)]
        exact e
def spPick : Sp := fun vs H Q _ => ∃ (d l p : Addr) (ys : List V), vs = [.ref d, .ref p] ∧ DeckL d l H ∧ H p = some (.lst ys) ∧ p ≠ d ∧ p ≠ l ∧ 1 ≤ ys.length ∧ ys.length ≤ 1000 ∧
  ∀ (y : V) (H' : Hp), Gl d l H H' → y ∈ ys → Q y H'
theorem ok_pick {f fD : Addr} {fd fdD : FuncData} (F : Fun K "_law_pick" "_law_pick" s_law_pick f fd) (T : Bl mg)
    (G_law_draw : FnOk P w K mg base CX0 1 fD fdD ["deck", "many"] spDraw) (C_law_draw : Callee K mg "_law_draw" fD fdD ["deck", "many"]) :
    FnOk P w K mg base CX0 2 f fd ["deck", "items"] spPick := by
  refine F.ok sc_law_pick (fun vs H Q E h => ?_) (fun cdv A outer s H vs Q E hr h => ?_)
  · obtain ⟨d, l, p, ys, rfl, _⟩ := h
    rfl
  · obtain ⟨d, l, p, ys, rfl, hD, hp, n1, n2, h1, h2, q⟩ := h
    refine ⟨_, (pss_one (ps_ret (pe_ix (ik_list (K := K) rfl) (pv 1) (pe_call G_law_draw (hr.mono (by decide)) (by rfl) C_law_draw.m C_law_draw.k C_law_draw.b .nil pass0 (pa_cons (pv 0) (pa_cons (pe_callB (c_len (K := K) rfl) (by rfl) T.len (by decide +kernel) (pa_cons (pv 1) pa_nil)) pa_nil))) (fun _ _ => rfl)))), ?_⟩
    refine rd_start (σ' := [some (.ref d), some (.ref p)]) rfl ?_
    walk_at "rds"
    refine rd_lenL (SqL.of hp) ?_
    walk_at "rds"
    refine ⟨d, l, _, rfl, hD, by omega, by omega, fun r H1 g r0 r1 => ?_⟩
    have hr1 : r.toNat < ys.length := by omega
    refine rd_ixL (SqL.of (g.kp p _ n1 n2 hp)) (at_nat (k := r.toNat) (by omega) (List.getElem?_eq_getElem hr1)) ?_
    exact q _ _ g (List.getElem_mem hr1)

def spMixed (K : PySem.W.Frag) : Sp := fun vs H Q _ => ∃ (d l p : Addr) (ns : List Int), vs = [.ref d, .ref p] ∧ DeckL d l H ∧ (SqL K H p (ns.map V.int) ∨ SqT K H p (ns.map V.int)) ∧ ns.length ≤ 1000 ∧
  ∀ (q : Addr) (ms : List Int) (H' : Hp), Gl d l H H' → H q = none → H' q = some (.lst (ms.map V.int)) → ms.Perm ns → Q (.ref q) H'
theorem ok_mixed {f fD : Addr} {fd fdD : FuncData} (F : Fun K "_law_mixed" "_law_mixed" s_law_mixed f fd) (T : Bl mg)
    (G_law_draw : FnOk P w K mg base CX0 1 fD fdD ["deck", "many"] spDraw) (C_law_draw : Callee K mg "_law_draw" fD fdD ["deck", "many"]) :
    FnOk P w K mg base CX0 2 f fd ["deck", "items"] (spMixed K) := by
  refine F.ok sc_law_mixed (fun vs H Q E h => ?_) (fun cdv A outer s H vs Q E hr h => ?_)
  · obtain ⟨d, l, p, ys, rfl, _⟩ := h
    rfl
  · obtain ⟨d, l, p, ns, rfl, hD, hp, h2, q⟩ := h
    refine ⟨_, (pss_cons (ps_par (i := 2) (j := 3) rfl sc_law_mixed.nd rfl rfl (by decide) rfl rfl (pa_cons (pe_callTy (c_list (K := K) rfl) (by rfl) T.list (by decide +kernel) (pa_cons (pv 1) pa_nil)) (pa_cons (pe_lst pa_nil) pa_nil)) (by rfl))
 (pss_cons (ps_while PassesOwn.never (pt_cmpR (ok_neD (K := K) rfl hr.units) (pv 2) (pe_lst pa_nil) (nomark _)) (pss_one (ps_expr (pe_bm PySem.F.plainAttrs_list PySem.F.slot_list_append PySem.F.type_list_append mt_append (pv 3) (pa_cons (pe_bm PySem.F.plainAttrs_list PySem.F.slot_list_pop PySem.F.type_list_pop mt_popAt (pv 2) (pa_cons (pe_call G_law_draw (hr.mono (by decide)) (by rfl) C_law_draw.m C_law_draw.k C_law_draw.b .nil pass0 (pa_cons (pv 0) (pa_cons (pe_callB (c_len (K := K) rfl) (by rfl) T.len (by decide +kernel) (pa_cons (pv 2) pa_nil)) pa_nil))) pa_nil)) pa_nil)))))
 (pss_one (ps_ret (pv 3))))), ?_⟩
    refine rd_start (σ' := [some (.ref d), some (.ref p), none, none]) rfl ?_
    walk_at "rds"
    refine rd_listE hp fun a na => ?_
    have g1 : Gl d l H (upd H a (.lst (ns.map V.int))) := Gl.new hD na
    walk_at "rds"
    refine ⟨Nat.zero_le _, fun b nb => ?_⟩
    have nab : a ≠ b := fun e => by
      rw [e, upd_same] at nb
      cases nb
    have nb0 : H b = none := g1.back hD nb
    walk_at "rds"
    refine rd_whileE ⟨fun m σ' H' => ∃ as bs : List Int, σ' = [some (.ref d), some (.ref p), some (.ref a), some (.ref b)] ∧ Gl d l H H' ∧
      H' a = some (.lst (as.map V.int)) ∧ H' b = some (.lst (bs.map V.int)) ∧ as.length = m ∧ (as ++ bs).Perm ns,
      ⟨ns.length, ns, [], rfl, g1.trans (Gl.new g1.dk nb), (upd_ne nab).trans upd_same, upd_same, rfl, by rw [List.append_nil]⟩, fun m σ' H' hW => ?_⟩
    obtain ⟨as, bs, rfl, g, ea, eb, rfl, pm⟩ := hW
    have hlen : as.length + bs.length = ns.length := by
      rw [← List.length_append]
      exact pm.length_eq
    obtain ⟨ad, al⟩ := hD.off na
    obtain ⟨bd, bl⟩ := hD.off nb0
    walk_at "rds"
    refine ⟨Nat.zero_le _, fun c nc => ?_⟩
    have cx : ∀ {o}, Gl d l H' (upd H' c o) := Gl.new g.dk nc
    have ea1 : (upd H' c (.lst [])) a = _ := (upd_ne (ne_of_none ea nc)).trans ea
    have eb1 : (upd H' c (.lst [])) b = _ := (upd_ne (ne_of_none eb nc)).trans eb
    refine rd_full (SqL.of ea1) (dp_ints as) (shaped_ints as) (SqL.of upd_same) ?_
    walk_at "rds"
    refine rd_iteb (fun c2 => ?_) (fun c2 => ?_)
    · refine ⟨fun σ2 H2 => ∃ (as2 bs2 : List Int), σ2 = [some (.ref d), some (.ref p), some (.ref a), some (.ref b)] ∧ Gl d l H H2 ∧
        H2 a = some (.lst (as2.map V.int)) ∧ H2 b = some (.lst (bs2.map V.int)) ∧ as2.length + 1 = as.length ∧ (as2 ++ bs2).Perm ns, fun σ2 H2 h => ?_, ?_⟩
      · obtain ⟨as2, bs2, e1, e2, e3, e4, e5, e6⟩ := h
        exact ⟨as2.length, by omega, as2, bs2, e1, e2, e3, e4, rfl, e6⟩
      · walk_at "rds"
        refine rd_tyL eb1 ?_
        walk_at "rds"
        refine rd_tyL ea1 ?_
        walk_at "rds"
        refine rd_lenL (SqL.of ea1) ?_
        walk_at "rds"
        have hpos : 1 ≤ as.length := by
          cases as with
          | nil => cases c2
          | cons x r => exact Nat.succ_le_succ (Nat.zero_le _)
        refine ⟨d, l, _, rfl, cx.dk, by rw [List.length_map]; omega, by rw [List.length_map]; omega, fun r H1 g2 r0 r1 => ?_⟩
        rw [List.length_map] at r1
        have hr1 : r.toNat < as.length := by omega
        have ea2 : H1 a = _ := g2.kp a _ ad al ea1
        have eb2 : H1 b = _ := g2.kp b _ bd bl eb1
        walk_at "rds"
        refine rd_popAt (i := r) (k := r.toNat) (y := .int as[r.toNat]) ea2 (by omega) (by rw [List.getElem?_map, List.getElem?_eq_getElem hr1]; rfl) (by rw [List.length_map]; omega) ?_
        walk_at "rds"
        have nba : b ≠ a := nab.symm
        refine rd_append ((upd_ne nba).trans eb2) (by rw [List.length_map]; omega) ?_
        walk_at "rds"
        refine ⟨as.eraseIdx r.toNat, bs ++ [as[r.toNat]], rfl, ?_, ?_, ?_, ?_, ?_⟩
        · exact Gl.mut (Gl.mut (g.trans (cx.trans g2)) hD na) hD nb0
        · rw [upd_ne nab, upd_same, SetFor_erase]
        · rw [upd_same, List.map_append] <;> rfl
        · rw [List.length_eraseIdx_of_lt hr1]
          omega
        · refine List.Perm.trans ?_ pm
          have e : as.Perm (as[r.toNat] :: as.eraseIdx r.toNat) := erase_perm hr1
          exact (perm_move _ _ _).trans (e.symm.append_right bs)
    · have e0 : as = [] := by
        cases as with
        | nil => rfl
        | cons x r => cases c2
      subst e0
      walk_at "rds"
      exact q b bs _ (g.trans cx) nb0 eb1 pm
end
end KA
set_option Elab.async false
set_option linter.all false
set_option maxRecDepth 100000
set_option maxHeartbeats 400000
namespace KA
open PySem PySem.Spec PyProof.Rows L2 Ea
abbrev s_law_owners : Stmt := topS 12
theorem sc_law_owners : FnScope ["deck", "n", "way", "cut", "letter"] ["deck", "n"] (defScope s_law_owners) :=
  ⟨rfl, rfl, rfl, by decide +kernel, rfl, by decide +kernel, by decide +kernel⟩
abbrev s_law_clause : Stmt := topS 13
theorem sc_law_clause : FnScope ["deck", "n", "most", "many", "letters", "letter"] ["deck", "n", "most"] (defScope s_law_clause) :=
  ⟨rfl, rfl, rfl, by decide +kernel, rfl, by decide +kernel, by decide +kernel⟩
local macro_rules | `(tactic| walk_at "rd") => `(tactic| first
  | (with_reducible refine rd_seq ?_) | (with_reducible refine rd_asg ?_) | (with_reducible refine rd_if ?_) | (with_reducible refine rd_ret ?_) | (with_reducible refine rd_next ?_)
  | (with_reducible refine rd_drop ?_) | ((with_reducible refine rd_name (σ' := ?ss) ?hs ?_); (case hs => (dsimp only [List.set]; exact rfl)))
  | ((with_reducible refine rd_var (v := ?vv) ?hv ?_); (case hv => exact rfl)) | (with_reducible refine rd_c ?_) | (with_reducible refine rd_op ?_) | (with_reducible refine rd_un ?_)
  | (with_reducible refine rd_I0 ?_) | (with_reducible refine rd_U ?_) | (with_reducible refine rd_test ?_) | (with_reducible refine rd_B ?_) | (with_reducible refine rd_k ?_)
  | (with_reducible refine rd_not ?_) | (with_reducible refine rd_and ?_) | (with_reducible refine rd_or ?_) | (with_reducible refine rd_ifE ?_)
  | (with_reducible refine rd_par ?_) | ((with_reducible refine rd_par2 (σ' := ?ss) ?hs ?_); (case hs => (dsimp only [List.set]; exact rfl)))
  | (with_reducible refine rd_gsub ?_) | (with_reducible refine rd_andV ?_) | (with_reducible refine rd_orV ?_) | (with_reducible refine rd_notV ?_)
  | (with_reducible refine rd_lc ?_) | (with_reducible refine rd_iTup ?_) | (with_reducible refine rd_iList ?_) | (with_reducible refine rd_iRng1 ?_)
  | (with_reducible refine rd_yes ?_) | (with_reducible refine rd_true ?_) | (with_reducible refine rd_false ?_) | (with_reducible refine rd_m1 ?_) | (with_reducible refine rd_isS ?_)
  | ((with_reducible refine rd_eq ?hs ?_); (case hs => exact rfl)) | ((with_reducible refine rd_ne ?hs ?_); (case hs => exact rfl))
  | (with_reducible refine rd_listRg ?_) | (with_reducible refine rd_rg2 ?_) | (with_reducible refine rd_rgk ?_)
  | (with_reducible refine rd_dnew ?_) | (with_reducible refine rd_ddel ?_) | (with_reducible refine rd_kw ?_) | (with_reducible refine rd_callS ?_) | (with_reducible refine rd_dc ?_) | (with_reducible refine rd_for ?_) | (with_reducible refine rd_tru ?_) | (with_reducible refine rd_truI ?_)
  | (with_reducible refine rd_nil ?_) | (with_reducible refine rd_cons ?_) | (with_reducible refine rd_call ?_) | (with_reducible refine rd_cb ?_)
  | (with_reducible refine rd_tup ?_) | (with_reducible refine rd_lst ?_) | (with_reducible refine rd_dget ?_) | (with_reducible refine rd_dput ?_) | (with_reducible refine rd_sl ?_)
  | (with_reducible refine rd_nopart ?_) | (with_reducible refine rd_part ?_) | (with_reducible refine rd_parti ?_) | (with_reducible refine rd_bm ?_) | (with_reducible refine rd_bm0 ?_)
  | (with_reducible refine rd_int ?_) | (with_reducible refine rd_intb ?_) | (with_reducible refine rd_abs ?_) | (with_reducible refine rd_min2 ?_) | (with_reducible refine rd_max2 ?_))
local macro_rules | `(tactic| walk_at "rds") => `(tactic| repeat (walk_at "rd"))

section
variable {P : Program} {w : World} {K : PySem.W.Frag} {mg : Str → Option Value} {base : Heap}
def spOwners : Sp := fun vs H Q _ => ∃ (d l : Addr) (n : Int), vs = [.ref d, .int n] ∧ DeckL d l H ∧ 0 ≤ n ∧ n ≤ 60 ∧
  ∀ (z : Str) (H' : Hp), Gl d l H H' → OwnS n.toNat z → Q (.str z) H'
theorem ok_owners {f fD fP : Addr} {fd fdD fdP : FuncData} (F : Fun K "_law_owners" "_law_owners" s_law_owners f fd) (T : Bl mg)
    (G_law_draw : FnOk P w K mg base CX0 1 fD fdD ["deck", "many"] spDraw) (C_law_draw : Callee K mg "_law_draw" fD fdD ["deck", "many"])
    (G_law_pick : FnOk P w K mg base CX0 2 fP fdP ["deck", "items"] spPick) (C_law_pick : Callee K mg "_law_pick" fP fdP ["deck", "items"]) :
    FnOk P w K mg base CX0 3 f fd ["deck", "n"] spOwners := by
  refine F.ok sc_law_owners (fun vs H Q E h => ?_) (fun cdv A outer s H vs Q E hr h => ?_)
  · obtain ⟨d, l, n, rfl, _⟩ := h
    rfl
  · obtain ⟨d, l, n, rfl, hD, h0, h1, q⟩ := h
    refine ⟨_, (pss_cons (ps_set (i := 2) sc_law_owners.nd rfl (Or.inl rfl) (pe_call G_law_draw (hr.mono (by decide)) (by rfl) C_law_draw.m C_law_draw.k C_law_draw.b .nil pass0 (pa_cons (pv 0) (pa_cons pe_int pa_nil))))
 (pss_cons (ps_if (pt_cmpR op_lt (pv 2) pe_int (nomark _)) (pss_one (ps_ret (pe_op op_mulS (pe_ix ix_str pe_str (pv 2) (fun _ _ => rfl)) (pv 1)))) pss_nil)
 (pss_cons (ps_if (pt_cmpR op_eq (pv 2) pe_int (nomark _)) (pss_one (ps_ret (pe_slice sl_str (pe_op op_mulS pe_str (pv 1)) po_none (po_some (pv 1))))) pss_nil)
 (pss_cons (ps_if (pt_cmpR op_eq (pv 2) pe_int (nomark _)) (pss_one (ps_ret (pe_slice sl_str (pe_op op_mulS pe_str (pv 1)) po_none (po_some (pv 1))))) pss_nil)
 (pss_cons (ps_if (pt_cmpR op_eq (pv 2) pe_int (nomark _)) (pss_cons (ps_set (i := 3) sc_law_owners.nd rfl (Or.inl rfl) (pe_call G_law_draw (hr.mono (by decide)) (by rfl) C_law_draw.m C_law_draw.k C_law_draw.b .nil pass0 (pa_cons (pv 0) (pa_cons (pe_op op_add (pv 1) pe_int) pa_nil))))
 (pss_one (ps_ret (pe_ifExp (pt_cmpR op_eq (pe_call G_law_draw (hr.mono (by decide)) (by rfl) C_law_draw.m C_law_draw.k C_law_draw.b .nil pass0 (pa_cons (pv 0) (pa_cons pe_int pa_nil))) pe_int (nomark _)) (pe_op op_addSt (pe_op op_mulS pe_str (pv 3)) (pe_op op_mulS pe_str (pe_op op_sub (pv 1) (pv 3)))) (pe_op op_addSt (pe_op op_mulS pe_str (pv 3)) (pe_op op_mulS pe_str (pe_op op_sub (pv 1) (pv 3)))))))) pss_nil)
 (pss_one (ps_ret (pe_joinN pe_str (pe_lc (own := [("letter", 4)]) (g := gName 4) rfl sc_law_owners.nd (pi_range1 (by rfl) T.range (pa_cons (pv 1) pa_nil)) (blkOk_by (own := [("letter", 4)]) (N := ["deck", "n", "way", "cut", "letter"]) (sc := defScope s_law_owners) (by decide +kernel)) (fun _ _ _ _ _ => (pg_name (i := 4) sc_law_owners.nd rfl (Or.inl rfl))) (fun _ _ _ _ _ => pts_nil) (fun _ _ _ _ _ => (pe_call G_law_pick (hr.mono (by decide)) (by rfl) C_law_pick.m C_law_pick.k C_law_pick.b .nil pass0 (pa_cons (pv 0) (pa_cons (pe_lst (pa_cons pe_str (pa_cons pe_str pa_nil))) pa_nil))))))))))))), ?_⟩
    refine rd_start (σ' := [some (.ref d), some (.int n), none, none, none]) rfl ?_
    have own : ∀ {z : Str} {H' : Hp}, Gl d l H H' → OwnS (n.toNat * 1) z → Q (.str z) H' := fun g h => q _ _ g (by rw [Nat.mul_one] at h; exact h)
    walk_at "rds"
    refine ⟨d, l, _, rfl, hD, by omega, by omega, fun r H1 g1 r0 r1 => ?_⟩
    walk_at "rds"
    refine rd_ite (fun c => ?_) (fun c => ?_)
    · walk_at "rds"
      have hr : r = 0 ∨ r = 1 := by omega
      rcases hr with rfl | rfl
      · refine rd_ixS (c := 101) (by decide) rfl ?_
        walk_at "rds"
        exact rd_mulS h0 (by omega) (by decide) (by decide) (own g1 (own_rep own_e h0))
      · refine rd_ixS (c := 115) (by decide) rfl ?_
        walk_at "rds"
        exact rd_mulS h0 (by omega) (by decide) (by decide) (own g1 (own_rep own_s h0))
    have cut : ∀ {z : Str}, OwnS 2 z → OwnS n.toNat (cutS (repS z n) none (some n)) := fun h => by
      have z := own_cut (n := n.toNat) (own_rep h h0) (by omega)
      rw [Int.toNat_of_nonneg h0] at z
      exact z
    have len : ∀ {z : Str}, OwnS 2 z → (repS z n).length ≤ sizeLine := fun h => by
      rw [(own_rep h h0).1, sizeLine_eq]
      omega
    walk_at "rds"
    refine rd_ite (fun c2 => ?_) (fun c2 => ?_)
    · walk_at "rds"
      refine rd_mulS h0 (by omega) (by decide) (by decide) ?_
      walk_at "rds"
      exact rd_slS (len ⟨rfl, by decide⟩) (q _ _ g1 (cut ⟨rfl, by decide⟩))
    walk_at "rds"
    refine rd_ite (fun c3 => ?_) (fun c3 => ?_)
    · walk_at "rds"
      refine rd_mulS h0 (by omega) (by decide) (by decide) ?_
      walk_at "rds"
      exact rd_slS (len ⟨rfl, by decide⟩) (q _ _ g1 (cut ⟨rfl, by decide⟩))
    walk_at "rds"
    refine rd_ite (fun c4 => ?_) (fun c4 => ?_)
    · walk_at "rds"
      refine ⟨d, l, _, rfl, g1.dk, by omega, by omega, fun k H3 g3 k0 k1 => ?_⟩
      walk_at "rds"
      have oe := own_rep own_e k0
      have os := own_rep own_s (n := n - k) (by omega)
      have oe' := own_rep own_e (n := n - k) (by omega)
      have os' := own_rep own_s k0
      have sum : k.toNat * 1 + (n - k).toNat * 1 = n.toNat * 1 := by omega
      refine ⟨d, l, 2, rfl, g3.dk, by decide, by decide, fun u H4 g4 u0 u1 => ?_⟩
      have g14 := (g1.trans g3).trans g4
      walk_at "rds"
      refine rd_ite (fun c5 => ?_) (fun c5 => ?_)
      · walk_at "rds"
        refine rd_mulS k0 (by omega) (by decide) (by decide) ?_
        walk_at "rds"
        refine rd_mulS (by omega) (by omega) (by decide) (by decide) ?_
        refine rd_addSt (by rw [oe.1, os.1, sizeLine_eq]; omega) ?_
        exact own g14 (sum ▸ own_add oe os)
      · walk_at "rds"
        refine rd_mulS k0 (by omega) (by decide) (by decide) ?_
        walk_at "rds"
        refine rd_mulS (by omega) (by omega) (by decide) (by decide) ?_
        refine rd_addSt (by rw [os'.1, oe'.1, sizeLine_eq]; omega) ?_
        exact own g14 (sum ▸ own_add os' oe')
    · walk_at "rds"
      refine rd_rng1 (by omega) (by omega) ?_
      refine lc_glR (fun i acc => ∃ ys : List Str, acc = ys.map V.str ∧ ys.length = i ∧ ∀ y ∈ ys, OwnS 1 y) (σx := fun x => [some (.ref d), some (.int n), some (.int r), none, some x])
        g1.dk (by omega) (fun _ => rfl) (fun _ => rfl) ⟨[], rfl, rfl, nofun⟩ (fun i hi acc H3 N S g3 hP kN kS => ?_) fun D acc H3 g3 eD hacc hP => ?_
      · obtain ⟨ys, rfl, rfl, hy⟩ := hP
        walk_at "rds"
        refine ⟨by decide, fun b hb => ?_⟩
        have g4 := Gl.new (o := .lst [V.str "e", V.str "s"]) g3.dk hb
        refine ⟨d, l, b, _, rfl, g4.dk, upd_same, (g3.dk.off hb).1, (g3.dk.off hb).2, by decide, by decide, fun y H5 g5 hy5 => ?_⟩
        obtain ⟨z, rfl, hz⟩ : ∃ z : Str, y = .str z ∧ OwnS 1 z := by
          rcases List.mem_cons.mp hy5 with rfl | hy5
          · exact ⟨_, rfl, own_e⟩
          · rw [List.mem_singleton.mp hy5]
            exact ⟨_, rfl, own_s⟩
        refine kN _ _ (g4.trans g5) ⟨ys ++ [z], by rw [List.map_append] <;> rfl, by rw [List.length_append] <;> rfl, fun y hy' => ?_⟩
        rcases List.mem_append.mp hy' with h | h
        · exact hy y h
        · rw [List.mem_singleton.mp h]
          exact hz
      · obtain ⟨ys, rfl, e, hy⟩ := hP
        refine rd_join (SqL.of hacc) ?_ (own (g1.trans g3) ?_)
        · have z : ("" : Str).length = 0 := rfl
          rw [own_sum hy, z]
          omega
        · have z := own_join hy
          rw [e] at z
          rw [Nat.mul_one]
          exact z
def spClause (K : PySem.W.Frag) : Sp := fun vs H Q _ => ∃ (d l : Addr) (n most : Int), vs = [.ref d, .int n, .int most] ∧ DeckL d l H ∧ 0 ≤ n ∧ n ≤ 60 ∧ 0 ≤ most ∧ most ≤ 60 ∧
  ∀ (a : Addr) (ns : List Int) (H' : Hp), Gl d l H H' → Row n.toNat ns → SqT K H' a (ns.map V.int) → Q (.ref a) H'
theorem ok_clause {f fD fP fM : Addr} {fd fdD fdP fdM : FuncData} (F : Fun K "_law_clause" "_law_clause" s_law_clause f fd) (T : Bl mg)
    (G_law_draw : FnOk P w K mg base CX0 1 fD fdD ["deck", "many"] spDraw) (C_law_draw : Callee K mg "_law_draw" fD fdD ["deck", "many"])
    (G_law_pick : FnOk P w K mg base CX0 2 fP fdP ["deck", "items"] spPick) (C_law_pick : Callee K mg "_law_pick" fP fdP ["deck", "items"])
    (G_law_mixed : FnOk P w K mg base CX0 2 fM fdM ["deck", "items"] (spMixed K)) (C_law_mixed : Callee K mg "_law_mixed" fM fdM ["deck", "items"]) :
    FnOk P w K mg base CX0 3 f fd ["deck", "n", "most"] (spClause K) := by
  refine F.ok sc_law_clause (fun vs H Q E h => ?_) (fun cdv A outer s H vs Q E hr h => ?_)
  · obtain ⟨d, l, n, m, rfl, _⟩ := h
    rfl
  · obtain ⟨d, l, n, most, rfl, hD, h0, h1, m0, m1, q⟩ := h
    refine ⟨_, (pss_cons (ps_set (i := 3) sc_law_clause.nd rfl (Or.inl rfl) (pe_callB (c_min2 rfl) (by rfl) T.min (by decide +kernel) (pa_cons (pv 1) (pa_cons (pe_call G_law_pick (hr.mono (by decide)) (by rfl) C_law_pick.m C_law_pick.k C_law_pick.b .nil pass0 (pa_cons (pv 0) (pa_cons (pe_lst (pa_cons pe_int (pa_cons pe_int (pa_cons pe_int (pa_cons pe_int (pa_cons pe_int (pa_cons pe_int (pa_cons pe_int (pa_cons pe_int (pa_cons (pv 2) (pa_cons (pe_call G_law_draw (hr.mono (by decide)) (by rfl) C_law_draw.m C_law_draw.k C_law_draw.b .nil pass0 (pa_cons (pv 0) (pa_cons (pe_op op_add (pv 2) pe_int) pa_nil))) pa_nil))))))))))) pa_nil))) pa_nil))))
 (pss_cons (ps_set (i := 4) sc_law_clause.nd rfl (Or.inl rfl) (pe_callB (c_sorted (K := K) rfl) (by rfl) T.sorted (by decide +kernel) (pa_cons (pe_slice (sk_list (K := K) rfl) (pe_call G_law_mixed (hr.mono (by decide)) (by rfl) C_law_mixed.m C_law_mixed.k C_law_mixed.b .nil pass0 (pa_cons (pv 0) (pa_cons (pe_listRg rfl (by rfl) T.list (prg_2 (by rfl) T.range pe_int (pe_op op_add (pv 1) pe_int))) pa_nil))) po_none (po_some (pv 3))) pa_nil)))
 (pss_one (ps_ret (pe_callTy (c_tuple (K := K) rfl) (by rfl) T.tuple (by decide +kernel) (pa_cons (pe_lc (own := [("letter", 5)]) (g := gName 5) rfl sc_law_clause.nd (ik_listI (K := K) rfl (pv 4)) (blkOk_by (own := [("letter", 5)]) (N := ["deck", "n", "most", "many", "letters", "letter"]) (sc := defScope s_law_clause) (by decide +kernel)) (fun _ _ _ _ _ => (pg_name (i := 5) sc_law_clause.nd rfl (Or.inl rfl))) (fun _ _ _ _ _ => pts_nil) (fun _ _ _ _ _ => (pe_ifExp (pt_cmpR op_eq (pe_call G_law_draw (hr.mono (by decide)) (by rfl) C_law_draw.m C_law_draw.k C_law_draw.b .nil pass0 (pa_cons (pv 0) (pa_cons pe_int pa_nil))) pe_int (nomark _)) (pv 5) (pe_un un_neg (pv 5))))) pa_nil)))))), ?_⟩
    refine rd_start (σ' := [some (.ref d), some (.int n), some (.int most), none, none, none]) rfl ?_
    walk_at "rds"
    refine ⟨d, l, _, rfl, hD, by omega, by omega, fun r H1 g1 r0 r1 => ?_⟩
    walk_at "rds"
    refine ⟨(by show 10 ≤ sizeLine; decide), fun b hb => ?_⟩
    have g2 := g1.trans (Gl.new (o := .lst [V.int 0, V.int 1, V.int 2, V.int 2, V.int 2, V.int 3, V.int 3, V.int 3, V.int most, V.int r]) g1.dk hb)
    refine ⟨d, l, b, _, rfl, g2.dk, upd_same, (g1.dk.off hb).1, (g1.dk.off hb).2, (by show 1 ≤ 10; decide), (by show 10 ≤ 1000; decide), fun y H3 g3 hy => ?_⟩
    obtain ⟨k, rfl, k0⟩ : ∃ k : Int, y = .int k ∧ 0 ≤ k := by
      simp only [List.mem_cons, List.not_mem_nil, or_false] at hy
      rcases hy with rfl | rfl | rfl | rfl | rfl | rfl | rfl | rfl | rfl | rfl <;> exact ⟨_, rfl, by omega⟩
    have g3' := g2.trans g3
    walk_at "rds"
    generalize e3 : (if k < n then k else n) = many
    have hmany : 0 ≤ many := by
      rw [← e3]
      split <;> omega
    walk_at "rds"
    refine ⟨RgOk.of_le (by omega) (by omega) (by omega) (by omega), fun c hc => ?_⟩
    rw [rgV_ints]
    have g4 := g3'.trans (Gl.new (o := .lst ((rgI 1 (n + 1)).map V.int)) g3'.dk hc)
    walk_at "rds"
    refine ⟨d, l, c, rgI 1 (n + 1), rfl, g4.dk, .inl (SqL.of upd_same), by rw [rgI_length]; omega, fun e ms H5 g5 he hms pm => ?_⟩
    have g5' := g4.trans g5
    walk_at "rds"
    refine rd_slL (SqL.of hms) fun u hu => ?_
    rw [cut_take hmany, ← List.map_take]
    have g6 := g5'.trans (Gl.new (o := .lst ((ms.take many.toNat).map V.int)) g5'.dk hu)
    walk_at "rds"
    refine rd_sorted (SqL.of upd_same) fun ls v pl so hv => ?_
    have g7 := g6.trans (Gl.new (o := .lst (ls.map V.int)) g6.dk hv)
    have hls : ∀ x ∈ ls, 1 ≤ x ∧ x ≤ (n.toNat : Int) := fun x hx => by
      have z := rgI_mem.mp (pm.mem_iff.mp (List.mem_of_mem_take (pl.mem_iff.mp hx)))
      omega
    have hnd : ls.Nodup := pl.nodup_iff.mpr ((pm.nodup_iff.mpr (nodup_of_lt (rgI_lt 1 (n + 1)))).sublist (List.take_sublist _ _))
    have hrow : Row n.toNat ls := Row.of_letters (lt_of_sorted so hnd) hls
    have hlen := hrow.length
    walk_at "rds"
    obtain ⟨vd, vl⟩ := g6.dk.off hv
    refine rd_refL (SqL.of upd_same) ?_
    refine lc_glL (xs := ls.map V.int) (fun i acc => ∃ ts : List Int, acc = ts.map V.int ∧ ts.map Int.natAbs = (ls.take i).map Int.natAbs)
      (σx := fun x => [some (.ref d), some (.int n), some (.int most), some (.int many), some (.ref v), some x])
      g7.dk (fun H' g => SqL.of (g.kp v _ vd vl upd_same)) (by rw [List.length_map]; omega) (fun _ => rfl) (fun _ => rfl) ⟨[], rfl, rfl⟩ (fun i x hx acc H8 N S g8 hP kN kS => ?_) fun D acc H8 g8 eD hacc hP => ?_
    · obtain ⟨ts, rfl, et⟩ := hP
      rw [List.getElem?_map] at hx
      obtain ⟨t, ht, rfl⟩ := Option.map_eq_some_iff.mp hx
      walk_at "rds"
      refine ⟨d, l, 2, rfl, g8.dk, by decide, by decide, fun u H9 g9 u0 u1 => ?_⟩
      have fin : ∀ s : Int, s.natAbs = t.natAbs → N (.int s) H9 := fun s e => by
        refine kN _ _ g9 ⟨ts ++ [s], by rw [List.map_append] <;> rfl, ?_⟩
        rw [List.take_add_one, ht, List.map_append, List.map_append, et]
        show _ ++ [s.natAbs] = _ ++ [t.natAbs]
        rw [e]
      walk_at "rds"
      refine rd_ite (fun c => ?_) (fun c => ?_)
      · walk_at "rds"
        exact fin _ rfl
      · walk_at "rds"
        exact fin _ (Int.natAbs_neg t)
    · obtain ⟨ts, rfl, et⟩ := hP
      rw [List.length_map, List.take_of_length_le (Nat.le_refl _)] at et
      walk_at "rds"
      refine rd_tupL (SqL.of hacc) fun z hz => ?_
      exact q z ts _ ((g7.trans g8).trans (Gl.new g8.dk hz)) (hrow.abs et) (SqT.of upd_same)
end
end KA
set_option Elab.async false
set_option linter.all false
set_option maxRecDepth 100000
set_option maxHeartbeats 400000
namespace KA
open PySem PySem.Spec PyProof.Rows L2 Ea
abbrev s_law_unlike : Stmt := topS 14
theorem sc_law_unlike : FnScope ["rows", "found", "row"] ["rows"] (defScope s_law_unlike) :=
  ⟨rfl, rfl, rfl, by decide +kernel, rfl, by decide +kernel, by decide +kernel⟩
local macro_rules | `(tactic| walk_at "rd") => `(tactic| first
  | (with_reducible refine rd_seq ?_) | (with_reducible refine rd_asg ?_) | (with_reducible refine rd_if ?_) | (with_reducible refine rd_ret ?_) | (with_reducible refine rd_next ?_)
  | (with_reducible refine rd_drop ?_) | ((with_reducible refine rd_name (σ' := ?ss) ?hs ?_); (case hs => (dsimp only [List.set]; exact rfl)))
  | ((with_reducible refine rd_var (v := ?vv) ?hv ?_); (case hv => exact rfl)) | (with_reducible refine rd_c ?_) | (with_reducible refine rd_op ?_) | (with_reducible refine rd_un ?_)
  | (with_reducible refine rd_I0 ?_) | (with_reducible refine rd_U ?_) | (with_reducible refine rd_test ?_) | (with_reducible refine rd_B ?_) | (with_reducible refine rd_k ?_)
  | (with_reducible refine rd_not ?_) | (with_reducible refine rd_and ?_) | (with_reducible refine rd_or ?_) | (with_reducible refine rd_ifE ?_)
  | (with_reducible refine rd_par ?_) | ((with_reducible refine rd_par2 (σ' := ?ss) ?hs ?_); (case hs => (dsimp only [List.set]; exact rfl)))
  | (with_reducible refine rd_gsub ?_) | (with_reducible refine rd_andV ?_) | (with_reducible refine rd_orV ?_) | (with_reducible refine rd_notV ?_)
  | (with_reducible refine rd_lc ?_) | (with_reducible refine rd_iTup ?_) | (with_reducible refine rd_iList ?_) | (with_reducible refine rd_iRng1 ?_)
  | (with_reducible refine rd_yes ?_) | (with_reducible refine rd_true ?_) | (with_reducible refine rd_false ?_) | (with_reducible refine rd_m1 ?_) | (with_reducible refine rd_isS ?_)
  | ((with_reducible refine rd_eq ?hs ?_); (case hs => exact rfl)) | ((with_reducible refine rd_ne ?hs ?_); (case hs => exact rfl))
  | (with_reducible refine rd_listRg ?_) | (with_reducible refine rd_rg2 ?_) | (with_reducible refine rd_rgk ?_)
  | (with_reducible refine rd_dnew ?_) | (with_reducible refine rd_ddel ?_) | (with_reducible refine rd_kw ?_) | (with_reducible refine rd_callS ?_) | (with_reducible refine rd_dc ?_) | (with_reducible refine rd_for ?_) | (with_reducible refine rd_tru ?_) | (with_reducible refine rd_truI ?_)
  | (with_reducible refine rd_nil ?_) | (with_reducible refine rd_cons ?_) | (with_reducible refine rd_call ?_) | (with_reducible refine rd_cb ?_)
  | (with_reducible refine rd_tup ?_) | (with_reducible refine rd_lst ?_) | (with_reducible refine rd_dget ?_) | (with_reducible refine rd_dput ?_) | (with_reducible refine rd_sl ?_)
  | (with_reducible refine rd_nopart ?_) | (with_reducible refine rd_part ?_) | (with_reducible refine rd_parti ?_) | (with_reducible refine rd_bm ?_) | (with_reducible refine rd_bm0 ?_)
  | (with_reducible refine rd_int ?_) | (with_reducible refine rd_intb ?_) | (with_reducible refine rd_abs ?_) | (with_reducible refine rd_min2 ?_) | (with_reducible refine rd_max2 ?_))
local macro_rules | `(tactic| walk_at "rds") => `(tactic| repeat (walk_at "rd"))

section
variable {P : Program} {w : World} {K : PySem.W.Frag} {mg : Str → Option Value} {base : Heap}
def spDeck (K : PySem.W.Frag) : Sp := fun vs H Q _ => ∃ (a : Addr) (ns : List Int), vs = [.ref a] ∧ SqL K H a (ns.map V.int) ∧ ns.length ≤ 63 ∧
  ∀ (d l : Addr) (H' : Hp), Evl.Ex H H' → H d = none → H l = none → DeckL d l H' → Q (.ref d) H'
theorem ok_deck {f : Addr} {fd : FuncData} (F : Fun K "_law_deck" "_law_deck" s_law_deck f fd) (T : Bl mg) : FnOk P w K mg base CX0 1 f fd ["script"] (spDeck K) := by
  refine F.ok sc_law_deck (fun vs H Q E h => ?_) (fun cdv A outer s H vs Q E hr h => ?_)
  · obtain ⟨a, ns, rfl, _⟩ := h
    rfl
  · obtain ⟨a, ns, rfl, ha, hl, q⟩ := h
    refine ⟨_, (pss_cons (ps_par (i := 2) (j := 3) rfl sc_law_deck.nd rfl rfl (by decide) rfl rfl (pa_cons (pe_lc (own := [("cell", 1)]) (g := gName 1) rfl sc_law_deck.nd (ik_listI (K := K) rfl (pe_slice (sk_list (K := K) rfl) (pv 0) po_none (po_some pe_int))) (blkOk_by (own := [("cell", 1)]) (N := ["script", "cell", "cells", "mixed"]) (sc := defScope s_law_deck) (by decide +kernel)) (fun _ _ _ _ _ => (pg_name (i := 1) sc_law_deck.nd rfl (Or.inl rfl))) (fun _ _ _ _ _ => pts_nil) (fun _ _ _ _ _ => (pe_op op_add (pe_op op_mul pe_int (pe_callB c_abs (by rfl) T.abs (by decide +kernel) (pa_cons (pv 1) pa_nil))) (pe_callTy c_int (by rfl) T.int (by decide +kernel) (pa_cons (pe_cmpR op_lt (pv 1) pe_int (nomark _)) pa_nil))))) (pa_cons (pe_op op_add pe_int (pe_callB (c_len (K := K) rfl) (by rfl) T.len (by decide +kernel) (pa_cons (pv 0) pa_nil))) pa_nil)) (by rfl))
 (pss_cons (ps_for PassesOwn.never rfl (ik_listI (K := K) rfl (pv 2)) (pg_name (i := 1) sc_law_deck.nd rfl (Or.inl rfl)) (pss_one (ps_set (i := 3) sc_law_deck.nd rfl (Or.inl rfl) (pe_op op_mod (pe_callTy c_int (by rfl) T.int (by decide +kernel) (pa_cons (pe_op op_add (pe_op op_add (pe_op op_mul (pv 3) pe_int) (pv 1)) pe_int) pa_nil)) pe_int))))
 (pss_one (ps_ret (pe_lst (pa_cons (pe_lc (own := [("cell", 1)]) (g := gName 1) rfl sc_law_deck.nd (ik_listI (K := K) rfl (pv 2)) (blkOk_by (own := [("cell", 1)]) (N := ["script", "cell", "cells", "mixed"]) (sc := defScope s_law_deck) (by decide +kernel)) (fun _ _ _ _ _ => (pg_name (i := 1) sc_law_deck.nd rfl (Or.inl rfl))) (fun _ _ _ _ _ => (pts_one (pt_cmpR op_gt (pv 1) (pe_op op_pow pe_int pe_int) (nomark _)))) (fun _ _ _ _ _ => (pv 1))) (pa_cons (pv 3) (pa_cons pe_int pa_nil)))))))), ?_⟩
    refine rd_start (σ' := [some (.ref a), none, none, none]) rfl ?_
    walk_at "rds"
    refine rd_slL ha fun u hu => ?_
    have hn : ns.length < 100000 := by omega
    rw [show ((63 : Int)) = ((63 : Nat) : Int) from rfl, cut_take (by omega), List.take_of_length_le (by rw [List.length_map]; exact hl)]
    have e1 := Evl.Ex.new (o := .lst (ns.map V.int)) hu
    refine rd_refL (SqL.of upd_same) ?_
    refine lc_fmL (fun _ => true) (fun x => .int (2 * (x.natAbs : Int) + if decide (x < 0) = true then 1 else 0)) (σx := fun x => [some (.ref a), some x, none, none]) (SqL.of upd_same) (by omega) (fun _ => rfl) (fun _ => rfl)
      (fun x hx H' N S e kN kS => ?_) fun D H2 e2 eD hD => ?_
    · walk_at "rds"
      refine rd_I (.inl ⟨by decide, by decide⟩) ?_
      walk_at "rds"
      exact kN rfl _ (Evl.Ex.refl _)
    have hm : ∃ ms : List Int, ((ns.filter fun _ => true).map fun x => V.int (2 * (x.natAbs : Int) + if decide (x < 0) = true then 1 else 0)) = ms.map V.int ∧ ms.length ≤ 63 ∧ ∀ m ∈ ms, 0 ≤ m := by
      rw [List.filter_eq_self.mpr fun _ _ => rfl]
      refine ⟨ns.map fun x => 2 * (x.natAbs : Int) + if decide (x < 0) = true then 1 else 0, by rw [List.map_map] <;> rfl, by rw [List.length_map]; exact hl, fun m h => ?_⟩
      obtain ⟨x, _, rfl⟩ := List.mem_map.mp h
      split <;> omega
    obtain ⟨ms, em, lm, m0⟩ := hm
    rw [em] at hD
    have e12 := e1.trans e2
    walk_at "rds"
    refine rd_lenL (Evl.ex_l e12 ha) ?_
    rw [List.length_map]
    walk_at "rds"
    refine rd_refL (SqL.of hD) ?_
    refine fr_list (xs := ms.map V.int) (fun i σ' H' => ∃ (c : Option V) (m : Int), σ' = [some (.ref a), c, some (.ref D), some (.int m)] ∧ H' = H2 ∧ 0 ≤ m ∧ m < 4294967291)
      ⟨_, _, rfl, rfl, by omega, by omega⟩ (fun i σ' H' _ ⟨_, _, _, e, _⟩ => by rw [e]; exact SqL.of hD) (fun i x σ' H' hi hP => ?_) fun σ' H' hP => ?_
    · obtain ⟨c, m, rfl, rfl, p0, p1⟩ := hP
      rw [List.getElem?_map] at hi
      obtain ⟨t, ht, rfl⟩ := Option.map_eq_some_iff.mp hi
      refine rd_start (σ' := [some (.ref a), some (.int t), some (.ref D), some (.int m)]) rfl ?_
      walk_at "rds"
      refine rd_I (.inr ⟨by decide, by decide⟩) ?_
      walk_at "rds"
      refine rd_I (by decide) ?_
      walk_at "rds"
      exact ⟨_, _, rfl, rfl, Int.emod_nonneg _ (by decide), Int.emod_lt_of_pos _ (by decide)⟩
    · obtain ⟨c, m, rfl, rfl, p0, p1⟩ := hP
      walk_at "rds"
      refine rd_refL (SqL.of hD) ?_
      refine lc_fmL (fun x => decide ((10 : Int) ^ 15 < x)) V.int (σx := fun x => [some (.ref a), some x, some (.ref D), some (.int m)]) (SqL.of hD) (by omega) (fun _ => rfl) (fun _ => rfl)
        (fun x hx H' N S e kN kS => ?_) fun D3 H3 e3 eD3 hD3 => ?_
      · walk_at "rds"
        refine rd_I ⟨by decide, by decide, by decide⟩ ?_
        walk_at "rds"
        refine rd_ite (fun c => ?_) (fun c => ?_)
        · walk_at "rds"
          exact kN (decide_eq_true c) _ (Evl.Ex.refl _)
        · exact kS (decide_eq_false c) _ (Evl.Ex.refl _)
      walk_at "rds"
      refine ⟨(by show 3 ≤ sizeLine; decide), fun d hd => ?_⟩
      have e13 := e12.trans e3
      have hdD : D3 ≠ d := ne_of_none hD3 hd
      refine q d D3 _ (e13.trans (Evl.Ex.new hd)) (Evl.fresh_back e13 hd) (Evl.fresh_back e12 eD3) ⟨ms.filter fun x => decide ((10 : Int) ^ 15 < x), m, 0, upd_same, (upd_ne hdD).trans hD3, ?_, fun n hn => m0 n (List.mem_filter.mp hn).1, p0, p1⟩
      have := List.length_filter_le (fun x => decide ((10 : Int) ^ 15 < x)) ms
      omega
end
end KA
set_option Elab.async false
set_option linter.all false
set_option maxRecDepth 100000
set_option maxHeartbeats 400000
namespace KA
open PySem PySem.Spec PyProof.Rows L2 Ea
local macro_rules | `(tactic| walk_at "rd") => `(tactic| first
  | (with_reducible refine rd_seq ?_) | (with_reducible refine rd_asg ?_) | (with_reducible refine rd_if ?_) | (with_reducible refine rd_ret ?_) | (with_reducible refine rd_next ?_)
  | (with_reducible refine rd_drop ?_) | ((with_reducible refine rd_name (σ' := ?ss) ?hs ?_); (case hs => (dsimp only [List.set]; exact rfl)))
  | ((with_reducible refine rd_var (v := ?vv) ?hv ?_); (case hv => exact rfl)) | (with_reducible refine rd_c ?_) | (with_reducible refine rd_op ?_) | (with_reducible refine rd_un ?_)
  | (with_reducible refine rd_I0 ?_) | (with_reducible refine rd_U ?_) | (with_reducible refine rd_test ?_) | (with_reducible refine rd_B ?_) | (with_reducible refine rd_k ?_)
  | (with_reducible refine rd_not ?_) | (with_reducible refine rd_and ?_) | (with_reducible refine rd_or ?_) | (with_reducible refine rd_ifE ?_)
  | (with_reducible refine rd_par ?_) | ((with_reducible refine rd_par2 (σ' := ?ss) ?hs ?_); (case hs => (dsimp only [List.set]; exact rfl)))
  | (with_reducible refine rd_gsub ?_) | (with_reducible refine rd_andV ?_) | (with_reducible refine rd_orV ?_) | (with_reducible refine rd_notV ?_)
  | (with_reducible refine rd_lc ?_) | (with_reducible refine rd_iTup ?_) | (with_reducible refine rd_iList ?_) | (with_reducible refine rd_iRng1 ?_)
  | (with_reducible refine rd_yes ?_) | (with_reducible refine rd_true ?_) | (with_reducible refine rd_false ?_) | (with_reducible refine rd_m1 ?_) | (with_reducible refine rd_isS ?_)
  | ((with_reducible refine rd_eq ?hs ?_); (case hs => exact rfl)) | ((with_reducible refine rd_ne ?hs ?_); (case hs => exact rfl))
  | (with_reducible refine rd_listRg ?_) | (with_reducible refine rd_rg2 ?_) | (with_reducible refine rd_rgk ?_)
  | (with_reducible refine rd_dnew ?_) | (with_reducible refine rd_ddel ?_) | (with_reducible refine rd_kw ?_) | (with_reducible refine rd_callS ?_) | (with_reducible refine rd_dc ?_) | (with_reducible refine rd_for ?_) | (with_reducible refine rd_tru ?_) | (with_reducible refine rd_truI ?_)
  | (with_reducible refine rd_nil ?_) | (with_reducible refine rd_cons ?_) | (with_reducible refine rd_call ?_) | (with_reducible refine rd_cb ?_)
  | (with_reducible refine rd_tup ?_) | (with_reducible refine rd_lst ?_) | (with_reducible refine rd_dget ?_) | (with_reducible refine rd_dput ?_) | (with_reducible refine rd_sl ?_)
  | (with_reducible refine rd_nopart ?_) | (with_reducible refine rd_part ?_) | (with_reducible refine rd_parti ?_) | (with_reducible refine rd_bm ?_) | (with_reducible refine rd_bm0 ?_)
  | (with_reducible refine rd_int ?_) | (with_reducible refine rd_intb ?_) | (with_reducible refine rd_abs ?_) | (with_reducible refine rd_min2 ?_) | (with_reducible refine rd_max2 ?_))
local macro_rules | `(tactic| walk_at "rds") => `(tactic| repeat (walk_at "rd"))

theorem hu65 {A : Around} {k : Nat} (hr : Room k A) : A.units + 65 < cLine := by
  have := hr.un
  omega
def dR (r : List Int) : PyData := .tuple (dI r)
section
variable {K : PySem.W.Frag} {H : Hp} {v x : V} {r : List Int} {xs : List V} {ds : List PyData} {rs : List (List Int)} {n i : Nat}
theorem dp_intsOf : ∀ {xs : List V} {r : List Int}, DpAll K H xs (dI r) → xs = r.map V.int
  | _, [], h => by
    cases h
    rfl
  | _, i :: r, h => by
    cases h with
    | cons h1 h2 =>
      cases h1
      rw [dp_intsOf h2] <;> rfl
theorem dp_row (h : Dp K H v (dR r)) : ∃ a, v = .ref a ∧ SqT K H a (r.map V.int) := by
  unfold dR at h
  cases h with
  | tup hs ha =>
    rw [dp_intsOf ha] at hs
    exact ⟨_, rfl, hs⟩
theorem dp_of_row {a : Addr} (h : SqT K H a (r.map V.int)) : Dp K H (.ref a) (dR r) := dp_T h
theorem dpAll_get : ∀ {xs : List V} {ds : List PyData} {i : Nat}, DpAll K H xs ds → xs[i]? = some x → ∃ d, ds[i]? = some d ∧ Dp K H x d
  | _, _, 0, .cons h _, e => by
    obtain rfl : _ = x := Option.some.inj e
    exact ⟨_, rfl, h⟩
  | _, _, i + 1, .cons _ h, e => dpAll_get (i := i) h e
  | _, _, i, .nil, e => by simp at e
theorem dpAll_len : ∀ {xs : List V} {ds : List PyData}, DpAll K H xs ds → xs.length = ds.length
  | _, _, .nil => rfl
  | _, _, .cons _ h => congrArg (· + 1) (dpAll_len h)
theorem dpAll_app : ∀ {xs ys : List V} {ds es : List PyData}, DpAll K H xs ds → DpAll K H ys es → DpAll K H (xs ++ ys) (ds ++ es)
  | _, _, _, _, .nil, h => h
  | _, _, _, _, .cons h t, h2 => .cons h (dpAll_app t h2)
theorem dpAll_take : ∀ {k : Nat} {xs : List V} {ds : List PyData}, DpAll K H xs ds → DpAll K H (xs.take k) (ds.take k)
  | 0, _, _, _ => .nil
  | _ + 1, _, _, .nil => .nil
  | k + 1, _, _, .cons h t => .cons h (dpAll_take (k := k) t)
theorem nice_rows (hn : n ≤ 60) : ∀ {rs : List (List Int)}, (∀ r ∈ rs, Row n r) → NiceAll (61 * rs.length) 1 (rs.map dR)
  | [], _ => NiceAll.nil
  | r :: t, h => (NiceAll.cons (nice_row (h r List.mem_cons_self) hn) (nice_rows hn fun s hs => h s (List.mem_cons_of_mem _ hs))).mono (by rw [List.length_cons]; omega) (Nat.le_refl _)
theorem any_rows (hn : n ≤ 60) (hr : Row n r) (h : (rs.map dR).any (fun z => PyData.eqv z (dR r)) = false) : r ∉ rs := fun hm => by
  have := List.any_eq_false.mp h (dR r) (List.mem_map_of_mem hm)
  exact this (SeqAt.eqv_refl _ (nice_row hr hn).lay)
end
section
variable {P : Program} {w : World} {K : PySem.W.Frag} {mg : Str → Option Value} {base : Heap}
def spUnlike (K : PySem.W.Frag) : Sp := fun vs H Q _ => ∃ (p : Addr) (xs : List V) (rs : List (List Int)) (n : Nat), vs = [.ref p] ∧ SqL K H p xs ∧ DpAll K H xs (rs.map dR) ∧ (∀ r ∈ rs, Row n r) ∧ n ≤ 60 ∧ rs.length ≤ 10000 ∧
  ∀ (q : Addr) (ys : List V) (ss : List (List Int)) (H' : Hp), Evl.Ex H H' → H q = none → H' q = some (.lst ys) → DpAll K H' ys (ss.map dR) → ss.Sublist rs → ss.Nodup → Q (.ref q) H'
theorem ok_unlike {f : Addr} {fd : FuncData} (F : Fun K "_law_unlike" "_law_unlike" s_law_unlike f fd) (T : Bl mg) : FnOk P w K mg base CX0 1 f fd ["rows"] (spUnlike K) := by
  refine F.ok sc_law_unlike (fun vs H Q E h => ?_) (fun cdv A outer s H vs Q E hr h => ?_)
  · obtain ⟨p, xs, rs, n, rfl, _⟩ := h
    rfl
  · obtain ⟨p, xs, rs, n, rfl, hp, ha, hrow, hn, hz, q⟩ := h
    have lx : xs.length = rs.length := by rw [dpAll_len ha, List.length_map]
    refine ⟨_, (pss_cons (ps_set (i := 1) sc_law_unlike.nd rfl (Or.inl rfl) (pe_lst pa_nil))
 (pss_cons (ps_for PassesOwn.never rfl (ik_listI (K := K) rfl (pv 0)) (pg_name (i := 2) sc_law_unlike.nd rfl (Or.inl rfl)) (pss_one (ps_if (pt_cmpR (op_notInD (hu65 hr)) (pv 2) (pv 1) (by rfl)) (pss_one (ps_expr (pe_bm PySem.F.plainAttrs_list PySem.F.slot_list_append PySem.F.type_list_append mt_append (pv 1) (pa_cons (pv 2) pa_nil)))) pss_nil)))
 (pss_one (ps_ret (pv 1))))), ?_⟩
    refine rd_start (σ' := [some (.ref p), none, none]) rfl ?_
    walk_at "rds"
    refine ⟨Nat.zero_le _, fun b hb => ?_⟩
    have e1 := Evl.Ex.new (o := .lst []) hb
    walk_at "rds"
    refine rd_refL (Evl.ex_l e1 hp) ?_
    refine fr_list (xs := xs) (fun i σ' H' => ∃ (y : Option V) (ys : List V) (ss : List (List Int)), σ' = [some (.ref p), some (.ref b), y] ∧ Evl.Ex H H' ∧ H' b = some (.lst ys) ∧ DpAll K H ys (ss.map dR) ∧ ss.Sublist (rs.take i) ∧ ss.Nodup)
      ⟨_, [], [], rfl, e1, upd_same, .nil, List.nil_sublist _, List.nodup_nil⟩ (fun i σ' H' _ ⟨_, _, _, _, e, _⟩ => Evl.ex_l e hp) (fun i x σ' H' hi hP => ?_) fun σ' H' hP => ?_
    · obtain ⟨y, ys, ss, rfl, e, hy, hd, hs, hnd⟩ := hP
      obtain ⟨d0, hd0, hx⟩ := dpAll_get ha hi
      rw [List.getElem?_map] at hd0
      obtain ⟨r, hr', rfl⟩ := Option.map_eq_some_iff.mp hd0
      have hrr := hrow r (List.mem_of_getElem? hr')
      have hss : ∀ r ∈ ss, Row n r := fun s h => hrow s (List.mem_of_mem_take (hs.subset h))
      have hsl : ss.length ≤ 10000 := Nat.le_trans (hs.trans (List.take_sublist _ _)).length_le hz
      have hyl : ys.length = ss.length := by rw [dpAll_len hd, List.length_map]
      refine rd_start (σ' := [some (.ref p), some (.ref b), some x]) rfl ?_
      walk_at "rds"
      refine ⟨dR r, ss.map dR, dp_ex e _ _ hx, .lst (SqL.of hy) (dpAll_ex e _ _ hd), (nice_row hrr hn).shaped (by decide), (Nice.lst (nice_rows hn hss)).shaped (by decide), ?_⟩
      walk_at "rds"
      have stay : ss.Sublist (rs.take (i + 1)) := by
        rw [List.take_add_one]
        exact hs.trans (List.sublist_append_left _ _)
      refine rd_iteb (fun c => ?_) (fun c => ?_)
      · walk_at "rds"
        refine rd_tyL hy ?_
        walk_at "rds"
        refine rd_append hy (by omega) ?_
        walk_at "rds"
        refine ⟨_, ys ++ [x], ss ++ [r], rfl, Evl.Ex.mut e hb, upd_same, ?_, ?_, ?_⟩
        · rw [List.map_append]
          exact dpAll_app hd (.cons hx .nil)
        · rw [List.take_add_one, hr']
          exact hs.append (List.Sublist.refl _)
        · have hno := any_rows (rs := ss) hn hrr (by simpa using c)
          exact List.nodup_append.mpr ⟨hnd, List.nodup_cons.mpr ⟨nofun, List.nodup_nil⟩, fun a ha b hb e => hno (by rw [List.mem_singleton.mp hb] at e; exact e ▸ ha)⟩
      · walk_at "rds"
        exact ⟨_, ys, ss, rfl, e, hy, hd, stay, hnd⟩
    · obtain ⟨y, ys, ss, rfl, e, hy, hd, hs, hnd⟩ := hP
      walk_at "rds"
      exact q b ys ss _ e hb hy (dpAll_ex e _ _ hd) (hs.trans (List.take_sublist _ _)) hnd
end
end KA
set_option Elab.async false
set_option linter.all false
set_option maxRecDepth 100000
set_option maxHeartbeats 400000
namespace Ea
open PySem PySem.Spec PyProof.Rows L2
/-- an if, its ends brought together -/
theorem rd_ifI {tt : TT} {ts tz : TS} {D : Ends} {σ : L2.St} {H : Hp} (I : L2.St → Hp → Prop) (h1 : ∀ N : L2.St → Hp → Prop, (∀ σ' H', I σ' H' → N σ' H') → tIfS tt ts tz { D with nx := N } σ H) (h : ∀ σ' H', I σ' H' → D.nx σ' H') : tIfS tt ts tz D σ H := h1 D.nx h
end Ea
namespace KA
open PySem PySem.Spec PyProof.Rows L2 Ea
abbrev s_law_sentence : Stmt := topS 15
theorem sc_law_sentence : FnScope ["deck", "n", "many", "most", "rows", "turn", "row", "at"] ["deck", "n", "many", "most"] (defScope s_law_sentence) :=
  ⟨rfl, rfl, rfl, by decide +kernel, rfl, by decide +kernel, by decide +kernel⟩
local macro_rules | `(tactic| walk_at "rd") => `(tactic| first
  | (with_reducible refine rd_seq ?_) | (with_reducible refine rd_asg ?_) | (with_reducible refine rd_if ?_) | (with_reducible refine rd_ret ?_) | (with_reducible refine rd_next ?_)
  | (with_reducible refine rd_drop ?_) | ((with_reducible refine rd_name (σ' := ?ss) ?hs ?_); (case hs => (dsimp only [List.set]; exact rfl)))
  | ((with_reducible refine rd_var (v := ?vv) ?hv ?_); (case hv => exact rfl)) | (with_reducible refine rd_c ?_) | (with_reducible refine rd_op ?_) | (with_reducible refine rd_un ?_)
  | (with_reducible refine rd_I0 ?_) | (with_reducible refine rd_U ?_) | (with_reducible refine rd_test ?_) | (with_reducible refine rd_B ?_) | (with_reducible refine rd_k ?_)
  | (with_reducible refine rd_not ?_) | (with_reducible refine rd_and ?_) | (with_reducible refine rd_or ?_) | (with_reducible refine rd_ifE ?_)
  | (with_reducible refine rd_par ?_) | ((with_reducible refine rd_par2 (σ' := ?ss) ?hs ?_); (case hs => (dsimp only [List.set]; exact rfl)))
  | (with_reducible refine rd_gsub ?_) | (with_reducible refine rd_andV ?_) | (with_reducible refine rd_orV ?_) | (with_reducible refine rd_notV ?_)
  | (with_reducible refine rd_lc ?_) | (with_reducible refine rd_iTup ?_) | (with_reducible refine rd_iList ?_) | (with_reducible refine rd_iRng1 ?_)
  | (with_reducible refine rd_yes ?_) | (with_reducible refine rd_true ?_) | (with_reducible refine rd_false ?_) | (with_reducible refine rd_m1 ?_) | (with_reducible refine rd_isS ?_)
  | ((with_reducible refine rd_eq ?hs ?_); (case hs => exact rfl)) | ((with_reducible refine rd_ne ?hs ?_); (case hs => exact rfl))
  | (with_reducible refine rd_listRg ?_) | (with_reducible refine rd_rg2 ?_) | (with_reducible refine rd_rgk ?_)
  | (with_reducible refine rd_dnew ?_) | (with_reducible refine rd_ddel ?_) | (with_reducible refine rd_kw ?_) | (with_reducible refine rd_callS ?_) | (with_reducible refine rd_dc ?_) | (with_reducible refine rd_for ?_) | (with_reducible refine rd_tru ?_) | (with_reducible refine rd_truI ?_)
  | (with_reducible refine rd_nil ?_) | (with_reducible refine rd_cons ?_) | (with_reducible refine rd_call ?_) | (with_reducible refine rd_cb ?_)
  | (with_reducible refine rd_tup ?_) | (with_reducible refine rd_lst ?_) | (with_reducible refine rd_dget ?_) | (with_reducible refine rd_dput ?_) | (with_reducible refine rd_sl ?_)
  | (with_reducible refine rd_nopart ?_) | (with_reducible refine rd_part ?_) | (with_reducible refine rd_parti ?_) | (with_reducible refine rd_bm ?_) | (with_reducible refine rd_bm0 ?_)
  | (with_reducible refine rd_int ?_) | (with_reducible refine rd_intb ?_) | (with_reducible refine rd_abs ?_) | (with_reducible refine rd_min2 ?_) | (with_reducible refine rd_max2 ?_))
local macro_rules | `(tactic| walk_at "rds") => `(tactic| repeat (walk_at "rd"))
local macro_rules | `(tactic| walk_at "rq") => `(tactic| first
  | (with_reducible refine rd_seq ?_) | (with_reducible refine rd_asg ?_) | (with_reducible refine rd_ret ?_) | (with_reducible refine rd_next ?_)
  | (with_reducible refine rd_drop ?_) | ((with_reducible refine rd_name (σ' := ?ss) ?hs ?_); (case hs => (dsimp only [List.set]; exact rfl)))
  | ((with_reducible refine rd_var (v := ?vv) ?hv ?_); (case hv => exact rfl)) | (with_reducible refine rd_c ?_) | (with_reducible refine rd_op ?_) | (with_reducible refine rd_un ?_)
  | (with_reducible refine rd_I0 ?_) | (with_reducible refine rd_U ?_) | (with_reducible refine rd_test ?_) | (with_reducible refine rd_B ?_) | (with_reducible refine rd_k ?_)
  | (with_reducible refine rd_not ?_) | (with_reducible refine rd_and ?_) | (with_reducible refine rd_or ?_) | (with_reducible refine rd_ifE ?_)
  | (with_reducible refine rd_par ?_) | ((with_reducible refine rd_par2 (σ' := ?ss) ?hs ?_); (case hs => (dsimp only [List.set]; exact rfl)))
  | (with_reducible refine rd_gsub ?_) | (with_reducible refine rd_andV ?_) | (with_reducible refine rd_orV ?_) | (with_reducible refine rd_notV ?_)
  | (with_reducible refine rd_lc ?_) | (with_reducible refine rd_iTup ?_) | (with_reducible refine rd_iList ?_) | (with_reducible refine rd_iRng1 ?_)
  | (with_reducible refine rd_yes ?_) | (with_reducible refine rd_true ?_) | (with_reducible refine rd_false ?_) | (with_reducible refine rd_m1 ?_) | (with_reducible refine rd_isS ?_)
  | ((with_reducible refine rd_eq ?hs ?_); (case hs => exact rfl)) | ((with_reducible refine rd_ne ?hs ?_); (case hs => exact rfl))
  | (with_reducible refine rd_listRg ?_) | (with_reducible refine rd_rg2 ?_) | (with_reducible refine rd_rgk ?_)
  | (with_reducible refine rd_dnew ?_) | (with_reducible refine rd_ddel ?_) | (with_reducible refine rd_kw ?_) | (with_reducible refine rd_callS ?_) | (with_reducible refine rd_dc ?_) | (with_reducible refine rd_for ?_) | (with_reducible refine rd_tru ?_) | (with_reducible refine rd_truI ?_)
  | (with_reducible refine rd_nil ?_) | (with_reducible refine rd_cons ?_) | (with_reducible refine rd_call ?_) | (with_reducible refine rd_cb ?_)
  | (with_reducible refine rd_tup ?_) | (with_reducible refine rd_lst ?_) | (with_reducible refine rd_dget ?_) | (with_reducible refine rd_dput ?_) | (with_reducible refine rd_sl ?_)
  | (with_reducible refine rd_nopart ?_) | (with_reducible refine rd_part ?_) | (with_reducible refine rd_parti ?_) | (with_reducible refine rd_bm ?_) | (with_reducible refine rd_bm0 ?_)
  | (with_reducible refine rd_int ?_) | (with_reducible refine rd_intb ?_) | (with_reducible refine rd_abs ?_) | (with_reducible refine rd_min2 ?_) | (with_reducible refine rd_max2 ?_))
local macro_rules | `(tactic| walk_at "rqs") => `(tactic| repeat (walk_at "rq"))

section
variable {K : PySem.W.Frag} {H H' : Hp} {d l : Addr} {v : V} {r : List Int} {n : Nat}
theorem Gl.row (g : Gl d l H H') (hD : DeckL d l H) (h : Dp K H v (dR r)) : Dp K H' v (dR r) := by
  obtain ⟨a, rfl, s⟩ := dp_row h
  exact dp_of_row (g.tup hD s)
theorem Gl.rows (g : Gl d l H H') (hD : DeckL d l H) : ∀ {xs : List V} {rs : List (List Int)}, DpAll K H xs (rs.map dR) → DpAll K H' xs (rs.map dR)
  | _, [], .nil => .nil
  | _, _ :: _, .cons h t => .cons (Gl.row g hD h) (Gl.rows g hD t)
theorem rows_upd {p : Addr} {ys : List V} {u : HO} (e : H p = some (.lst ys)) : ∀ {xs : List V} {rs : List (List Int)}, DpAll K H xs (rs.map dR) → DpAll K (upd H p u) xs (rs.map dR)
  | _, [], .nil => .nil
  | _, _ :: _, .cons h t => .cons (by
      obtain ⟨a, rfl, s⟩ := dp_row h
      exact dp_of_row (tup_upd e lst_not s)) (rows_upd e t)
theorem rows_app {xs : List V} {rs : List (List Int)} (h : DpAll K H xs (rs.map dR)) (h2 : Dp K H v (dR r)) : DpAll K H (xs ++ [v]) ((rs ++ [r]).map dR) := by
  rw [List.map_append]
  exact dpAll_app h (.cons h2 .nil)
/-- a sentence: owners, clauses -/
def SentAt (K : PySem.W.Frag) (H : Hp) (n : Nat) (a : Addr) (z : Str) (rs : List (List Int)) : Prop :=
  ∃ (c : Addr) (xs : List V), SqT K H a [.str z, .ref c] ∧ SqT K H c xs ∧ DpAll K H xs (rs.map dR) ∧ OwnS n z ∧ (∀ r ∈ rs, Row n r) ∧ rs.Nodup
theorem take_rows {k : Nat} {rs : List (List Int)} : (rs.map dR).take k = (rs.take k).map dR := List.map_take.symm
theorem neg_at {k : Nat} {x : Int} (h : r[k]? = some x) : (r.take k ++ [-x] ++ r.drop (k + 1)).map Int.natAbs = r.map Int.natAbs := by
  have e : r = r.take k ++ ([x] ++ r.drop (k + 1)) := by
    have h1 := (List.getElem?_eq_some_iff.mp h)
    obtain ⟨hk, rfl⟩ := h1
    rw [List.singleton_append, List.getElem_cons_drop, List.take_append_drop]
  conv => rhs; rw [e]
  rw [List.append_assoc, List.map_append, List.map_append, List.map_append, List.map_append, List.map_singleton, List.map_singleton, Int.natAbs_neg]
end
section
variable {P : Program} {w : World} {K : PySem.W.Frag} {mg : Str → Option Value} {base : Heap}
def spSentence (K : PySem.W.Frag) : Sp := fun vs H Q _ => ∃ (d l : Addr) (n many most : Int), vs = [.ref d, .int n, .int many, .int most] ∧ DeckL d l H ∧ 0 ≤ n ∧ n ≤ 60 ∧ 0 ≤ many ∧ many ≤ 1000 ∧ 0 ≤ most ∧ most ≤ 60 ∧
  ∀ (a : Addr) (z : Str) (rs : List (List Int)) (H' : Hp), Gl d l H H' → SentAt K H' n.toNat a z rs → rs.length ≤ many.toNat → Q (.ref a) H'
theorem ok_sentence {f fD fO fC fU : Addr} {fd fdD fdO fdC fdU : FuncData} (F : Fun K "_law_sentence" "_law_sentence" s_law_sentence f fd) (T : Bl mg)
    (G_law_draw : FnOk P w K mg base CX0 1 fD fdD ["deck", "many"] spDraw) (C_law_draw : Callee K mg "_law_draw" fD fdD ["deck", "many"])
    (G_law_owners : FnOk P w K mg base CX0 3 fO fdO ["deck", "n"] spOwners) (C_law_owners : Callee K mg "_law_owners" fO fdO ["deck", "n"])
    (G_law_clause : FnOk P w K mg base CX0 3 fC fdC ["deck", "n", "most"] (spClause K)) (C_law_clause : Callee K mg "_law_clause" fC fdC ["deck", "n", "most"])
    (G_law_unlike : FnOk P w K mg base CX0 1 fU fdU ["rows"] (spUnlike K)) (C_law_unlike : Callee K mg "_law_unlike" fU fdU ["rows"]) :
    FnOk P w K mg base CX0 4 f fd ["deck", "n", "many", "most"] (spSentence K) := by
  refine F.ok sc_law_sentence (fun vs H Q E h => ?_) (fun cdv A outer s H vs Q E hr h => ?_)
  · obtain ⟨d, l, n, many, most, rfl, _⟩ := h
    rfl
  · obtain ⟨d, l, n, many, most, rfl, hD, n0, n1, m0, m1, t0, t1, q⟩ := h
    refine ⟨_, (pss_cons (ps_set (i := 4) sc_law_sentence.nd rfl (Or.inl rfl) (pe_lst pa_nil))
 (pss_cons (ps_for PassesOwn.never rfl (pi_range1 (by rfl) T.range (pa_cons (pe_call G_law_draw (hr.mono (by decide)) (by rfl) C_law_draw.m C_law_draw.k C_law_draw.b .nil pass0 (pa_cons (pv 0) (pa_cons (pe_op op_add (pv 2) pe_int) pa_nil))) pa_nil)) (pg_name (i := 5) sc_law_sentence.nd rfl (Or.inl rfl)) (pss_cons (ps_set (i := 6) sc_law_sentence.nd rfl (Or.inl rfl) (pe_call G_law_clause (hr.mono (by decide)) (by rfl) C_law_clause.m C_law_clause.k C_law_clause.b .nil pass0 (pa_cons (pv 0) (pa_cons (pv 1) (pa_cons (pv 3) pa_nil)))))
 (pss_cons (ps_if (PW.pt (pw_and (pt_cmpR (ok_eqD (K := K) rfl hr.units) (pv 6) (pe_tup pa_nil) (nomark _)) (pw_and1 (pt_cmpR op_gt (pe_call G_law_draw (hr.mono (by decide)) (by rfl) C_law_draw.m C_law_draw.k C_law_draw.b .nil pass0 (pa_cons (pv 0) (pa_cons pe_int pa_nil))) pe_int (nomark _))))) (pss_one (ps_set (i := 6) sc_law_sentence.nd rfl (Or.inl rfl) (pe_call G_law_clause (hr.mono (by decide)) (by rfl) C_law_clause.m C_law_clause.k C_law_clause.b .nil pass0 (pa_cons (pv 0) (pa_cons (pv 1) (pa_cons (pv 3) pa_nil)))))) pss_nil)
 (pss_cons (ps_expr (pe_bm PySem.F.plainAttrs_list PySem.F.slot_list_append PySem.F.type_list_append mt_append (pv 4) (pa_cons (pv 6) pa_nil)))
 (pss_one (ps_if (PW.pt (pw_and (pt_cmpR (ok_neD (K := K) rfl hr.units) (pv 6) (pe_tup pa_nil) (nomark _)) (pw_and1 (pt_cmpR op_eq (pe_call G_law_draw (hr.mono (by decide)) (by rfl) C_law_draw.m C_law_draw.k C_law_draw.b .nil pass0 (pa_cons (pv 0) (pa_cons pe_int pa_nil))) pe_int (nomark _))))) (pss_cons (ps_set (i := 7) sc_law_sentence.nd rfl (Or.inl rfl) (pe_call G_law_draw (hr.mono (by decide)) (by rfl) C_law_draw.m C_law_draw.k C_law_draw.b .nil pass0 (pa_cons (pv 0) (pa_cons (pe_callB (c_len (K := K) rfl) (by rfl) T.len (by decide +kernel) (pa_cons (pv 6) pa_nil)) pa_nil))))
 (pss_one (ps_expr (pe_bm PySem.F.plainAttrs_list PySem.F.slot_list_append PySem.F.type_list_append mt_append (pv 4) (pa_cons (pe_ifExp (pt_cmpR op_eq (pe_call G_law_draw (hr.mono (by decide)) (by rfl) C_law_draw.m C_law_draw.k C_law_draw.b .nil pass0 (pa_cons (pv 0) (pa_cons pe_int pa_nil))) pe_int (nomark _)) (pe_op (ok_catT (K := K) rfl) (pe_op (ok_catT (K := K) rfl) (pe_slice (sk_tup (K := K) rfl) (pv 6) po_none (po_some (pv 7))) (pe_tup (pa_cons (pe_un un_neg (pe_ix (ik_tup (K := K) rfl) (pv 6) (pv 7) (fun _ _ => rfl))) pa_nil))) (pe_slice (sk_tup (K := K) rfl) (pv 6) (po_some (pe_op op_add (pv 7) pe_int)) po_none)) (pe_op (ok_catT (K := K) rfl) (pe_slice (sk_tup (K := K) rfl) (pv 6) po_none (po_some (pv 7))) (pe_slice (sk_tup (K := K) rfl) (pv 6) (po_some (pe_op op_add (pv 7) pe_int)) po_none))) pa_nil))))) pss_nil))))))
 (pss_one (ps_ret (pe_tup (pa_cons (pe_call G_law_owners (hr.mono (by decide)) (by rfl) C_law_owners.m C_law_owners.k C_law_owners.b .nil pass0 (pa_cons (pv 0) (pa_cons (pv 1) pa_nil))) (pa_cons (pe_callTy (c_tuple (K := K) rfl) (by rfl) T.tuple (by decide +kernel) (pa_cons (pe_slice (sk_list (K := K) rfl) (pe_call G_law_unlike (hr.mono (by decide)) (by rfl) C_law_unlike.m C_law_unlike.k C_law_unlike.b .nil pass0 (pa_cons (pv 4) pa_nil)) po_none (po_some (pv 2))) pa_nil)) pa_nil))))))), ?_⟩
    refine rd_start (σ' := [some (.ref d), some (.int n), some (.int many), some (.int most), none, none, none, none]) rfl ?_
    walk_at "rds"
    refine ⟨Nat.zero_le _, fun b hb => ?_⟩
    obtain ⟨bd, bl⟩ := hD.off hb
    have g1 := Gl.new (o := .lst []) hD hb
    walk_at "rds"
    refine ⟨d, l, _, rfl, g1.dk, by omega, by omega, fun r H2 g2 r0 r1 => ?_⟩
    walk_at "rds"
    refine rd_rng1 (by omega) (by omega) ?_
    refine fr_range (lo := 0) (n := r.toNat) (fun i σ' H' => ∃ (x5 x6 x7 : Option V) (xs : List V) (rs : List (List Int)), σ' = [some (.ref d), some (.int n), some (.int many), some (.int most), some (.ref b), x5, x6, x7] ∧ Gl d l H H' ∧
        H' b = some (.lst xs) ∧ DpAll K H' xs (rs.map dR) ∧ (∀ r ∈ rs, Row n.toNat r) ∧ rs.length ≤ 2 * i)
      ⟨_, _, _, [], [], rfl, g1.trans g2, g2.kp b _ bd bl upd_same, .nil, nofun, Nat.le_refl _⟩ (fun i σ' H' hi hP => ?_) fun σ' H' hP => ?_
    · obtain ⟨x5, x6, x7, xs, rs, rfl, g, hx, hrs, hrow, hlen⟩ := hP
      have lxs : xs.length = rs.length := by rw [dpAll_len hrs, List.length_map]
      refine rd_start (σ' := [some (.ref d), some (.int n), some (.int many), some (.int most), some (.ref b), some (.int (0 + (i : Int))), x6, x7]) rfl ?_
      walk_at "rqs"
      refine ⟨d, l, n, most, rfl, g.dk, n0, n1, t0, t1, fun a1 ns1 H3 g3 hr1 s1 => ?_⟩
      walk_at "rqs"
      refine rd_ifI (fun σ' H4 => ∃ (a : Addr) (ns : List Int), σ' = [some (.ref d), some (.int n), some (.int many), some (.int most), some (.ref b), some (.int (0 + (i : Int))), some (.ref a), x7] ∧ Gl d l H' H4 ∧ Row n.toNat ns ∧ SqT K H4 a (ns.map V.int)) (fun N kN => ?_) fun σ' H4 hI => ?_
      · walk_at "rds"
        refine ⟨Nat.zero_le _, fun p hp => ?_⟩
        have g4 := Gl.new (o := .tup []) g3.dk hp
        have s2 := g4.tup g3.dk s1
        have same : N [some (.ref d), some (.int n), some (.int many), some (.int most), some (.ref b), some (.int (0 + (i : Int))), some (.ref a1), x7] (upd H3 p (.tup [])) := kN _ _ ⟨a1, ns1, rfl, g3.trans g4, hr1, s2⟩
        refine rd_eqD (dp_T s2) (dp_T (ns := []) (SqT.of upd_same)) (nice_row hr1 (by omega)) (nice_row (Row.nil (n := n.toNat)) (by omega)) (by decide) (by decide) ?_
        walk_at "rds"
        refine rd_iteb (fun c => ?_) (fun c => ?_)
        · walk_at "rds"
          refine ⟨d, l, 4, rfl, g4.dk, by decide, by decide, fun r5 H5 g5 r50 r51 => ?_⟩
          walk_at "rds"
          refine rd_ite (fun c2 => ?_) (fun c2 => ?_)
          · walk_at "rds"
            refine ⟨d, l, n, most, rfl, g5.dk, n0, n1, t0, t1, fun a6 ns6 H6 g6 hr6 s6 => ?_⟩
            walk_at "rds"
            exact kN _ _ ⟨a6, ns6, rfl, ((g3.trans g4).trans g5).trans g6, hr6, s6⟩
          · walk_at "rds"
            exact kN _ _ ⟨a1, ns1, rfl, (g3.trans g4).trans g5, hr1, g5.tup g4.dk s2⟩
        · exact same
      clear s1 hr1 g3
      obtain ⟨a, ns, rfl, g4, hr4, s4⟩ := hI
      have hx4 := g4.kp b _ bd bl hx
      have hrs4 := Gl.rows g4 g.dk hrs
      walk_at "rqs"
      refine rd_tyL hx4 ?_
      walk_at "rqs"
      refine rd_append hx4 (by omega) ?_
      walk_at "rqs"
      have g5 := Gl.mut (o := .lst (xs ++ [V.ref a])) (g.trans g4) hD hb
      have s5 : SqT K (upd H4 b (.lst (xs ++ [V.ref a]))) a (ns.map V.int) := tup_upd hx4 lst_not s4
      have d5 : DpAll K (upd H4 b (.lst (xs ++ [V.ref a]))) (xs ++ [V.ref a]) ((rs ++ [ns]).map dR) := rows_upd hx4 (rows_app hrs4 (dp_of_row s4))
      have x5 : (upd H4 b (.lst (xs ++ [V.ref a]))) b = some (.lst (xs ++ [V.ref a])) := upd_same
      have r5 : ∀ r ∈ rs ++ [ns], Row n.toNat r := fun r h => (List.mem_append.mp h).elim (hrow r) fun h => List.mem_singleton.mp h ▸ hr4
      have l5 : (rs ++ [ns]).length ≤ 2 * i + 1 := by rw [List.length_append, List.length_singleton]; omega
      clear hx hrs hrow hlen hx4 hrs4 g4 s4 g
      generalize upd H4 b (.lst (xs ++ [V.ref a])) = H5 at g5 s5 d5 x5 ⊢
      generalize xs ++ [V.ref a] = ys at d5 x5 lxs
      generalize rs ++ [ns] = ss at d5 r5 l5 lxs
      have lys : ys.length = ss.length := by rw [dpAll_len d5, List.length_map]
      walk_at "rds"
      refine ⟨Nat.zero_le _, fun p hp => ?_⟩
      have g6 := Gl.new (o := .tup []) g5.dk hp
      have s6 := g6.tup g5.dk s5
      have d6 := Gl.rows g6 g5.dk d5
      have x6 := g6.kp b _ bd bl x5
      refine rd_neD (dp_T s6) (dp_T (ns := []) (SqT.of upd_same)) (nice_row hr4 (by omega)) (nice_row (Row.nil (n := n.toNat)) (by omega)) (by decide) (by decide) ?_
      walk_at "rds"
      refine rd_iteb (fun c => ?_) (fun c => ?_)
      · walk_at "rds"
        have hpos : 1 ≤ ns.length := by
          cases ns with
          | nil => rw [SeqAt.eqv_refl _ rfl] at c; cases c
          | cons x t => exact Nat.succ_le_succ (Nat.zero_le _)
        have hnl := hr4.length
        refine ⟨d, l, 4, rfl, g6.dk, by decide, by decide, fun r7 H7 g7 r70 r71 => ?_⟩
        have s7 := g7.tup g6.dk s6
        have d7 := Gl.rows g7 g6.dk d6
        have x7' := g7.kp b _ bd bl x6
        have g17 := (g5.trans g6).trans g7
        walk_at "rds"
        refine rd_ite (fun c2 => ?_) (fun c2 => ?_)
        · walk_at "rds"
          refine rd_lenT s7 ?_
          rw [List.length_map]
          walk_at "rds"
          refine ⟨d, l, _, rfl, g7.dk, by omega, by omega, fun at_ H8 g8 a0 a1' => ?_⟩
          have s8 := g8.tup g7.dk s7
          have d8 := Gl.rows g8 g7.dk d7
          have x8 := g8.kp b _ bd bl x7'
          walk_at "rds"
          refine rd_tyL x8 ?_
          walk_at "rds"
          refine ⟨d, l, 2, rfl, g8.dk, by decide, by decide, fun r9 H9 g9 r90 r91 => ?_⟩
          have s9 := g9.tup g8.dk s8
          have d9 := Gl.rows g9 g8.dk d8
          have x9 := g9.kp b _ bd bl x8
          have g19 := (g17.trans g8).trans g9
          walk_at "rds"
          have hat : at_.toNat < ns.length := by omega
          refine rd_ite2 (fun v H' => ∃ q ms, v = .ref q ∧ Evl.Ex H9 H' ∧ Row n.toNat ms ∧ SqT K H' q (ms.map V.int)) (fun R kR => ?_) (fun R kR => ?_) fun v HA hv => ?_
          · walk_at "rds"
            refine rd_slT s9 fun c1 F1 f1 u1 => ?_
            rw [cut_take a0, ← List.map_take] at u1
            walk_at "rds"
            refine rd_ixT (x := .int ns[at_.toNat]) (Evl.ex_t f1 s9) (at_nat (k := at_.toNat) (by omega) (by rw [List.getElem?_map, List.getElem?_eq_getElem hat] <;> rfl)) ?_
            walk_at "rds"
            refine ⟨(by show 1 ≤ sizeLine; decide), fun c2 hc2 => ?_⟩
            have f2 := Evl.Ex.new (o := .tup [V.int (-ns[at_.toNat])]) hc2
            walk_at "rds"
            refine rd_catT (Evl.ex_t f2 u1) (SqT.of upd_same) (by simp only [List.length_append, List.length_map, List.length_take, List.length_drop, List.length_singleton]; rw [sizeLine_eq]; omega) fun c3 F3 f3 u3 => ?_
            walk_at "rds"
            refine rd_slT (Evl.ex_t ((f1.trans f2).trans f3) s9) fun c4 F4 f4 u4 => ?_
            rw [cut_drop (by omega), ← List.map_drop, show (at_ + 1).toNat = at_.toNat + 1 by omega] at u4
            refine rd_catT (Evl.ex_t f4 u3) u4 (by simp only [List.length_append, List.length_map, List.length_take, List.length_drop, List.length_singleton]; rw [sizeLine_eq]; omega) fun c5 F5 f5 u5 => ?_
            refine kR _ _ ⟨c5, ns.take at_.toNat ++ [-ns[at_.toNat]] ++ ns.drop (at_.toNat + 1), rfl, (((f1.trans f2).trans f3).trans f4).trans f5, hr4.abs (neg_at (List.getElem?_eq_getElem hat)), ?_⟩
            rw [List.map_append, List.map_append]
            exact u5
          · walk_at "rds"
            refine rd_slT s9 fun c1 F1 f1 u1 => ?_
            rw [cut_take a0, ← List.map_take] at u1
            walk_at "rds"
            refine rd_slT (Evl.ex_t f1 s9) fun c4 F4 f4 u4 => ?_
            rw [cut_drop (by omega), ← List.map_drop, show (at_ + 1).toNat = at_.toNat + 1 by omega] at u4
            refine rd_catT (Evl.ex_t f4 u1) u4 (by simp only [List.length_append, List.length_map, List.length_take, List.length_drop]; rw [sizeLine_eq]; omega) fun c5 F5 f5 u5 => ?_
            refine kR _ _ ⟨c5, ns.take at_.toNat ++ ns.drop (at_.toNat + 1), rfl, (f1.trans f4).trans f5, hr4.sub ?_, by rw [List.map_append]; exact u5⟩
            conv => rhs; rw [← List.take_append_drop at_.toNat ns]
            exact (List.Sublist.refl _).append (List.drop_sublist_drop_left _ (Nat.le_succ _))
          obtain ⟨q2, ms, rfl, eA, hms, sA⟩ := hv
          have xA : HA b = some (.lst ys) := eA _ _ x9
          have dA := dpAll_ex eA _ _ d9
          walk_at "rds"
          refine rd_append xA (by omega) ?_
          walk_at "rds"
          refine ⟨_, _, _, ys ++ [V.ref q2], ss ++ [ms], rfl, Gl.mut (g19.trans (Gl.ex eA g9.dk)) hD hb, upd_same, ?_, fun r h => (List.mem_append.mp h).elim (r5 r) fun h => List.mem_singleton.mp h ▸ hms, ?_⟩
          · exact rows_upd xA (rows_app dA (dp_of_row sA))
          · rw [List.length_append, List.length_singleton]
            omega
        · walk_at "rds"
          exact ⟨_, _, _, ys, ss, rfl, g17, x7', d7, r5, by omega⟩
      · walk_at "rds"
        exact ⟨_, _, _, ys, ss, rfl, g5.trans g6, x6, d6, r5, by omega⟩
    · obtain ⟨x5, x6, x7, xs, rs, rfl, g, hx, hrs, hrow, hlen⟩ := hP
      walk_at "rds"
      refine ⟨d, l, n, rfl, g.dk, n0, n1, fun z H3 g3 hz => ?_⟩
      have x3 := g3.kp b _ bd bl hx
      have d3 := Gl.rows g3 g.dk hrs
      walk_at "rds"
      refine ⟨b, xs, rs, n.toNat, rfl, SqL.of x3, d3, hrow, by omega, by omega, fun c ys ss H4 e4 hc x4 d4 hsub hnd => ?_⟩
      walk_at "rds"
      refine rd_slL (SqL.of x4) fun u hu => ?_
      rw [cut_take m0]
      have e5 := Evl.Ex.new (o := .lst (ys.take many.toNat)) hu
      walk_at "rds"
      refine rd_tupL (SqL.of upd_same) fun o ho => ?_
      have e6 := Evl.Ex.new (o := .tup (ys.take many.toNat)) ho
      walk_at "rds"
      refine ⟨(by show 2 ≤ sizeLine; decide), fun p hp => ?_⟩
      have e7 := Evl.Ex.new (o := .tup [V.str z, V.ref o]) hp
      have e57 := (e5.trans e6).trans e7
      have g7 := (g.trans g3).trans (Gl.ex (e4.trans e57) g3.dk)
      refine q p z (ss.take many.toNat) _ g7 ⟨o, ys.take many.toNat, SqT.of upd_same, Evl.ex_t e7 (SqT.of upd_same), ?_, hz, fun r h => hrow r (hsub.subset (List.mem_of_mem_take h)), hnd.sublist (List.take_sublist _ _)⟩ (List.length_take_le _ _)
      have z7 := dpAll_take (k := many.toNat) (dpAll_ex e57 _ _ d4)
      rw [take_rows] at z7
      exact z7
end
end KA
set_option Elab.async false
set_option linter.all false
set_option maxRecDepth 100000
set_option maxHeartbeats 400000
namespace KA
open PySem PySem.Spec PyProof.Rows L2 Ea
theorem rd_gunl2 {K : PySem.W.Frag} {σ σ' : L2.St} {H : Hp} {p : Addr} {x y : V} {n i j : Nat} {N : L2.St → Hp → Prop} (s : SqL K H p [x, y]) (hn : n = 2) (hs : (σ.set i (some x)).set j (some y) = σ') (h : N σ' H) :
    gUnl K n (gCons (gName i) (gCons (gName j) gNil)) (.ref p) σ H N := ⟨p, [x, y], rfl, s, hn.symm, x, [y], rfl, y, [], rfl, rfl, by subst hs; exact h⟩
abbrev s_law_great : Stmt := topS 16
theorem sc_law_great : FnScope ["deck", "n", "many", "rows", "step", "turn", "one", "other", "first", "second", "row", "x"] ["deck"] (defScope s_law_great) :=
  ⟨rfl, rfl, rfl, by decide +kernel, rfl, by decide +kernel, by decide +kernel⟩
local macro_rules | `(tactic| walk_at "rd") => `(tactic| first
  | (with_reducible refine rd_seq ?_) | (with_reducible refine rd_asg ?_) | (with_reducible refine rd_if ?_) | (with_reducible refine rd_ret ?_) | (with_reducible refine rd_next ?_)
  | (with_reducible refine rd_drop ?_) | ((with_reducible refine rd_name (σ' := ?ss) ?hs ?_); (case hs => (dsimp only [List.set]; exact rfl)))
  | ((with_reducible refine rd_var (v := ?vv) ?hv ?_); (case hv => exact rfl)) | (with_reducible refine rd_c ?_) | (with_reducible refine rd_op ?_) | (with_reducible refine rd_un ?_)
  | (with_reducible refine rd_I0 ?_) | (with_reducible refine rd_U ?_) | (with_reducible refine rd_test ?_) | (with_reducible refine rd_B ?_) | (with_reducible refine rd_k ?_)
  | (with_reducible refine rd_not ?_) | (with_reducible refine rd_and ?_) | (with_reducible refine rd_or ?_) | (with_reducible refine rd_ifE ?_)
  | (with_reducible refine rd_par ?_) | ((with_reducible refine rd_par2 (σ' := ?ss) ?hs ?_); (case hs => (dsimp only [List.set]; exact rfl)))
  | (with_reducible refine rd_gsub ?_) | (with_reducible refine rd_andV ?_) | (with_reducible refine rd_orV ?_) | (with_reducible refine rd_notV ?_)
  | (with_reducible refine rd_lc ?_) | (with_reducible refine rd_iTup ?_) | (with_reducible refine rd_iList ?_) | (with_reducible refine rd_iRng1 ?_)
  | (with_reducible refine rd_yes ?_) | (with_reducible refine rd_true ?_) | (with_reducible refine rd_false ?_) | (with_reducible refine rd_m1 ?_) | (with_reducible refine rd_isS ?_)
  | ((with_reducible refine rd_eq ?hs ?_); (case hs => exact rfl)) | ((with_reducible refine rd_ne ?hs ?_); (case hs => exact rfl))
  | (with_reducible refine rd_listRg ?_) | (with_reducible refine rd_rg2 ?_) | (with_reducible refine rd_rgk ?_)
  | (with_reducible refine rd_dnew ?_) | (with_reducible refine rd_ddel ?_) | (with_reducible refine rd_kw ?_) | (with_reducible refine rd_callS ?_) | (with_reducible refine rd_dc ?_) | (with_reducible refine rd_for ?_) | (with_reducible refine rd_tru ?_) | (with_reducible refine rd_truI ?_)
  | (with_reducible refine rd_nil ?_) | (with_reducible refine rd_cons ?_) | (with_reducible refine rd_call ?_) | (with_reducible refine rd_cb ?_)
  | (with_reducible refine rd_tup ?_) | (with_reducible refine rd_lst ?_) | (with_reducible refine rd_dget ?_) | (with_reducible refine rd_dput ?_) | (with_reducible refine rd_sl ?_)
  | (with_reducible refine rd_nopart ?_) | (with_reducible refine rd_part ?_) | (with_reducible refine rd_parti ?_) | (with_reducible refine rd_bm ?_) | (with_reducible refine rd_bm0 ?_)
  | (with_reducible refine rd_int ?_) | (with_reducible refine rd_intb ?_) | (with_reducible refine rd_abs ?_) | (with_reducible refine rd_min2 ?_) | (with_reducible refine rd_max2 ?_))
local macro_rules | `(tactic| walk_at "rds") => `(tactic| repeat (walk_at "rd"))
local macro_rules | `(tactic| walk_at "rq") => `(tactic| first
  | (with_reducible refine rd_seq ?_) | (with_reducible refine rd_asg ?_) | (with_reducible refine rd_ret ?_) | (with_reducible refine rd_next ?_)
  | (with_reducible refine rd_drop ?_) | ((with_reducible refine rd_name (σ' := ?ss) ?hs ?_); (case hs => (dsimp only [List.set]; exact rfl)))
  | ((with_reducible refine rd_var (v := ?vv) ?hv ?_); (case hv => exact rfl)) | (with_reducible refine rd_c ?_) | (with_reducible refine rd_op ?_) | (with_reducible refine rd_un ?_)
  | (with_reducible refine rd_I0 ?_) | (with_reducible refine rd_U ?_) | (with_reducible refine rd_test ?_) | (with_reducible refine rd_B ?_) | (with_reducible refine rd_k ?_)
  | (with_reducible refine rd_not ?_) | (with_reducible refine rd_and ?_) | (with_reducible refine rd_or ?_) | (with_reducible refine rd_ifE ?_)
  | (with_reducible refine rd_par ?_) | ((with_reducible refine rd_par2 (σ' := ?ss) ?hs ?_); (case hs => (dsimp only [List.set]; exact rfl)))
  | (with_reducible refine rd_gsub ?_) | (with_reducible refine rd_andV ?_) | (with_reducible refine rd_orV ?_) | (with_reducible refine rd_notV ?_)
  | (with_reducible refine rd_lc ?_) | (with_reducible refine rd_iTup ?_) | (with_reducible refine rd_iList ?_) | (with_reducible refine rd_iRng1 ?_)
  | (with_reducible refine rd_yes ?_) | (with_reducible refine rd_true ?_) | (with_reducible refine rd_false ?_) | (with_reducible refine rd_m1 ?_) | (with_reducible refine rd_isS ?_)
  | ((with_reducible refine rd_eq ?hs ?_); (case hs => exact rfl)) | ((with_reducible refine rd_ne ?hs ?_); (case hs => exact rfl))
  | (with_reducible refine rd_listRg ?_) | (with_reducible refine rd_rg2 ?_) | (with_reducible refine rd_rgk ?_)
  | (with_reducible refine rd_dnew ?_) | (with_reducible refine rd_ddel ?_) | (with_reducible refine rd_kw ?_) | (with_reducible refine rd_callS ?_) | (with_reducible refine rd_dc ?_) | (with_reducible refine rd_for ?_) | (with_reducible refine rd_tru ?_) | (with_reducible refine rd_truI ?_)
  | (with_reducible refine rd_nil ?_) | (with_reducible refine rd_cons ?_) | (with_reducible refine rd_call ?_) | (with_reducible refine rd_cb ?_)
  | (with_reducible refine rd_tup ?_) | (with_reducible refine rd_lst ?_) | (with_reducible refine rd_dget ?_) | (with_reducible refine rd_dput ?_) | (with_reducible refine rd_sl ?_)
  | (with_reducible refine rd_nopart ?_) | (with_reducible refine rd_part ?_) | (with_reducible refine rd_parti ?_) | (with_reducible refine rd_bm ?_) | (with_reducible refine rd_bm0 ?_)
  | (with_reducible refine rd_int ?_) | (with_reducible refine rd_intb ?_) | (with_reducible refine rd_abs ?_) | (with_reducible refine rd_min2 ?_) | (with_reducible refine rd_max2 ?_))
local macro_rules | `(tactic| walk_at "rqs") => `(tactic| repeat (walk_at "rq"))

section
variable {P : Program} {w : World} {K : PySem.W.Frag} {mg : Str → Option Value} {base : Heap}
def spGreat (K : PySem.W.Frag) : Sp := fun vs H Q _ => ∃ (d l : Addr), vs = [.ref d] ∧ DeckL d l H ∧
  ∀ (a : Addr) (z : Str) (n : Nat) (rs : List (List Int)) (H' : Hp), Gl d l H H' → 41 ≤ n → n ≤ 60 → SentAt K H' n a z rs → rs.length ≤ 200 → Q (.ref a) H'
theorem ok_great {f fD fP fO fU : Addr} {fd fdD fdP fdO fdU : FuncData} (F : Fun K "_law_great" "_law_great" s_law_great f fd) (T : Bl mg)
    (G_law_draw : FnOk P w K mg base CX0 1 fD fdD ["deck", "many"] spDraw) (C_law_draw : Callee K mg "_law_draw" fD fdD ["deck", "many"])
    (G_law_pick : FnOk P w K mg base CX0 2 fP fdP ["deck", "items"] spPick) (C_law_pick : Callee K mg "_law_pick" fP fdP ["deck", "items"])
    (G_law_owners : FnOk P w K mg base CX0 3 fO fdO ["deck", "n"] spOwners) (C_law_owners : Callee K mg "_law_owners" fO fdO ["deck", "n"])
    (G_law_unlike : FnOk P w K mg base CX0 1 fU fdU ["rows"] (spUnlike K)) (C_law_unlike : Callee K mg "_law_unlike" fU fdU ["rows"]) :
    FnOk P w K mg base CX0 4 f fd ["deck"] (spGreat K) := by
  refine F.ok sc_law_great (fun vs H Q E h => ?_) (fun cdv A outer s H vs Q E hr h => ?_)
  · obtain ⟨d, l, rfl, _⟩ := h
    rfl
  · obtain ⟨d, l, rfl, hD, q⟩ := h
    refine ⟨_, (pss_cons (ps_set (i := 1) sc_law_great.nd rfl (Or.inl rfl) (pe_call G_law_pick (hr.mono (by decide)) (by rfl) C_law_pick.m C_law_pick.k C_law_pick.b .nil pass0 (pa_cons (pv 0) (pa_cons (pe_lst (pa_cons pe_int (pa_cons pe_int (pa_cons pe_int (pa_cons pe_int pa_nil))))) pa_nil))))
 (pss_cons (ps_par (i := 2) (j := 3) rfl sc_law_great.nd rfl rfl (by decide) rfl rfl (pa_cons (pe_call G_law_pick (hr.mono (by decide)) (by rfl) C_law_pick.m C_law_pick.k C_law_pick.b .nil pass0 (pa_cons (pv 0) (pa_cons (pe_lst (pa_cons pe_int (pa_cons pe_int (pa_cons pe_int (pa_cons pe_int pa_nil))))) pa_nil))) (pa_cons (pe_lst pa_nil) pa_nil)) (by rfl))
 (pss_cons (ps_set (i := 4) sc_law_great.nd rfl (Or.inl rfl) (pe_op op_add pe_int (pe_call G_law_draw (hr.mono (by decide)) (by rfl) C_law_draw.m C_law_draw.k C_law_draw.b .nil pass0 (pa_cons (pv 0) (pa_cons pe_int pa_nil)))))
 (pss_cons (ps_for PassesOwn.never rfl (pi_range1 (by rfl) T.range (pa_cons (pv 2) pa_nil)) (pg_name (i := 5) sc_law_great.nd rfl (Or.inl rfl)) (pss_cons (ps_par (i := 6) (j := 7) rfl sc_law_great.nd rfl rfl (by decide) rfl rfl (pa_cons (pe_op op_add (pe_op op_mod (pv 5) (pv 1)) pe_int) (pa_cons (pe_op op_add (pe_op op_mod (pe_callTy c_int (by rfl) T.int (by decide +kernel) (pa_cons (pe_op op_add (pe_op op_mul (pv 5) (pv 4)) (pe_op op_mul (pe_op op_fdiv (pv 5) (pv 1)) pe_int)) pa_nil)) (pv 1)) pe_int) pa_nil)) (by rfl))
 (pss_cons (ps_asg (pe_callB (c_sorted (K := K) rfl) (by rfl) T.sorted (by decide +kernel) (pa_cons (pe_lst (pa_cons (pv 6) (pa_cons (pv 7) pa_nil))) pa_nil)) (pg_unl rfl (pgs_cons (pg_name (i := 8) sc_law_great.nd rfl (Or.inl rfl)) (pgs_cons (pg_name (i := 9) sc_law_great.nd rfl (Or.inl rfl)) pgs_nil))))
 (pss_cons (ps_set (i := 10) sc_law_great.nd rfl (Or.inl rfl) (pe_ifExp (pt_cmpR op_eq (pv 8) (pv 9) (nomark _)) (pe_tup (pa_cons (pv 8) pa_nil)) (pe_tup (pa_cons (pv 8) (pa_cons (pe_ifExp (pt_cmpR op_eq (pe_op op_mod (pv 5) pe_int) pe_int (nomark _)) (pe_un un_neg (pv 9)) (pv 9)) pa_nil)))))
 (pss_one (ps_expr (pe_bm PySem.F.plainAttrs_list PySem.F.slot_list_append PySem.F.type_list_append mt_append (pv 3) (pa_cons (pe_callTy (c_tuple (K := K) rfl) (by rfl) T.tuple (by decide +kernel) (pa_cons (pe_lc (own := [("x", 11)]) (g := gName 11) rfl sc_law_great.nd (ik_tupI (K := K) rfl (pv 10)) (blkOk_by (own := [("x", 11)]) (N := ["deck", "n", "many", "rows", "step", "turn", "one", "other", "first", "second", "row", "x"]) (sc := defScope s_law_great) (by decide +kernel)) (fun _ _ _ _ _ => (pg_name (i := 11) sc_law_great.nd rfl (Or.inl rfl))) (fun _ _ _ _ _ => pts_nil) (fun _ _ _ _ _ => (pe_ifExp (pt_cmpR op_eq (pe_call G_law_draw (hr.mono (by decide)) (by rfl) C_law_draw.m C_law_draw.k C_law_draw.b .nil pass0 (pa_cons (pv 0) (pa_cons pe_int pa_nil))) pe_int (nomark _)) (pe_un un_neg (pv 11)) (pv 11)))) pa_nil)) pa_nil))))))))
 (pss_one (ps_ret (pe_tup (pa_cons (pe_call G_law_owners (hr.mono (by decide)) (by rfl) C_law_owners.m C_law_owners.k C_law_owners.b .nil pass0 (pa_cons (pv 0) (pa_cons (pv 1) pa_nil))) (pa_cons (pe_callTy (c_tuple (K := K) rfl) (by rfl) T.tuple (by decide +kernel) (pa_cons (pe_call G_law_unlike (hr.mono (by decide)) (by rfl) C_law_unlike.m C_law_unlike.k C_law_unlike.b .nil pass0 (pa_cons (pv 3) pa_nil)) pa_nil)) pa_nil))))))))), ?_⟩
    refine rd_start (σ' := [some (.ref d), none, none, none, none, none, none, none, none, none, none, none]) rfl ?_
    walk_at "rds"
    refine ⟨(by show 4 ≤ sizeLine; decide), fun b hb => ?_⟩
    have g1 := Gl.new (o := .lst [V.int 60, V.int 60, V.int 59, V.int 41]) hD hb
    refine ⟨d, l, b, _, rfl, g1.dk, upd_same, (hD.off hb).1, (hD.off hb).2, (by show 1 ≤ 4; decide), (by show 4 ≤ 1000; decide), fun y H2 g2 hy => ?_⟩
    obtain ⟨n, rfl, n0, n1⟩ : ∃ k : Int, y = .int k ∧ 41 ≤ k ∧ k ≤ 60 := by
      simp only [List.mem_cons, List.not_mem_nil, or_false] at hy
      rcases hy with rfl | rfl | rfl | rfl <;> exact ⟨_, rfl, by decide, by decide⟩
    walk_at "rds"
    refine ⟨(by show 4 ≤ sizeLine; decide), fun b2 hb2 => ?_⟩
    have g3 := Gl.new (o := .lst [V.int 200, V.int 200, V.int 30, V.int 60]) g2.dk hb2
    refine ⟨d, l, b2, _, rfl, g3.dk, upd_same, (g2.dk.off hb2).1, (g2.dk.off hb2).2, (by show 1 ≤ 4; decide), (by show 4 ≤ 1000; decide), fun y2 H4 g4 hy2 => ?_⟩
    obtain ⟨many, rfl, m0, m1⟩ : ∃ k : Int, y2 = .int k ∧ 0 ≤ k ∧ k ≤ 200 := by
      simp only [List.mem_cons, List.not_mem_nil, or_false] at hy2
      rcases hy2 with rfl | rfl | rfl | rfl <;> exact ⟨_, rfl, by decide, by decide⟩
    have g14 := (g1.trans g2).trans (g3.trans g4)
    walk_at "rds"
    refine ⟨Nat.zero_le _, fun p hp => ?_⟩
    have hp0 : H p = none := g14.back hD hp
    obtain ⟨pd, pl⟩ := hD.off hp0
    have g5 := Gl.new (o := .lst []) g14.dk hp
    walk_at "rds"
    refine ⟨d, l, 7, rfl, g5.dk, by decide, by decide, fun st H6 g6 s0 s1 => ?_⟩
    walk_at "rds"
    refine rd_rng1 (by omega) (by omega) ?_
    refine fr_range (lo := 0) (n := many.toNat) (fun i σ' H' => ∃ (x5 x6 x7 x8 x9 xa xb : Option V) (xs : List V) (rs : List (List Int)), σ' = [some (.ref d), some (.int n), some (.int many), some (.ref p), some (.int (1 + st)), x5, x6, x7, x8, x9, xa, xb] ∧ Gl d l H H' ∧
        H' p = some (.lst xs) ∧ DpAll K H' xs (rs.map dR) ∧ (∀ r ∈ rs, Row n.toNat r) ∧ rs.length ≤ i)
      ⟨_, _, _, _, _, _, _, [], [], rfl, (g14.trans g5).trans g6, g6.kp p _ pd pl upd_same, .nil, nofun, Nat.le_refl _⟩ (fun i σ' H' hi hP => ?_) fun σ' H' hP => ?_
    · obtain ⟨x5, x6, x7, x8, x9, xa, xb, xs, rs, rfl, g, hx, hrs, hrow, hlen⟩ := hP
      have lxs : xs.length = rs.length := by rw [dpAll_len hrs, List.length_map]
      refine rd_start (σ' := [some (.ref d), some (.int n), some (.int many), some (.ref p), some (.int (1 + st)), some (.int (0 + (i : Int))), x6, x7, x8, x9, xa, xb]) rfl ?_
      walk_at "rds"
      refine rd_I (by omega) ?_
      walk_at "rds"
      refine rd_I (.inl ⟨by omega, by omega⟩) ?_
      walk_at "rds"
      refine rd_I ⟨by omega, by omega⟩ ?_
      walk_at "rds"
      refine rd_I (.inr ⟨by decide, by decide⟩) ?_
      walk_at "rds"
      refine rd_I (by omega) ?_
      walk_at "rds"
      generalize hA : (0 + (i : Int)) % n + 1 = A
      generalize hB : ((0 + (i : Int)) * (1 + st) + (0 + (i : Int)) / n * 3) % n + 1 = B
      have A1 : 1 ≤ A ∧ A ≤ n := by
        have := Int.emod_nonneg (0 + (i : Int)) (b := n) (by omega)
        have := Int.emod_lt_of_pos (0 + (i : Int)) (b := n) (by omega)
        omega
      have B1 : 1 ≤ B ∧ B ≤ n := by
        have := Int.emod_nonneg ((0 + (i : Int)) * (1 + st) + (0 + (i : Int)) / n * 3) (b := n) (by omega)
        have := Int.emod_lt_of_pos ((0 + (i : Int)) * (1 + st) + (0 + (i : Int)) / n * 3) (b := n) (by omega)
        omega
      clear hA hB
      refine ⟨(by show 2 ≤ sizeLine; decide), fun u hu => ?_⟩
      have g7 := Gl.new (o := .lst [V.int A, V.int B]) g.dk hu
      walk_at "rds"
      refine rd_sorted (ns := [A, B]) (SqL.of upd_same) fun ms v pm so hv => ?_
      have g8 := g7.trans (Gl.new (o := .lst (ms.map V.int)) g7.dk hv)
      obtain ⟨f1, f2, rfl⟩ : ∃ a b, ms = [a, b] := by
        match ms, pm.length_eq with
        | [a, b], _ => exact ⟨a, b, rfl⟩
      have hf1 : 1 ≤ f1 ∧ f1 ≤ n := by
        have := pm.mem_iff.mp (List.mem_cons_self (a := f1) (l := [f2]))
        simp only [List.mem_cons, List.not_mem_nil, or_false] at this
        rcases this with rfl | rfl <;> assumption
      have hf2 : 1 ≤ f2 ∧ f2 ≤ n := by
        have := pm.mem_iff.mp (List.mem_cons_of_mem f1 (List.mem_cons_self (a := f2) (l := [])))
        simp only [List.mem_cons, List.not_mem_nil, or_false] at this
        rcases this with rfl | rfl <;> assumption
      have hff : f1 ≤ f2 := (List.pairwise_cons.mp so).1 f2 List.mem_cons_self
      refine rd_gunl2 (x := .int f1) (y := .int f2) (SqL.of upd_same) rfl (σ' := [some (.ref d), some (.int n), some (.int many), some (.ref p), some (.int (1 + st)), some (.int (0 + (i : Int))), some (.int A), some (.int B), some (.int f1), some (.int f2), xa, xb]) rfl ?_
      have hx8 := g8.kp p _ pd pl hx
      have d8 := Gl.rows g8 g.dk hrs
      have g8' := g.trans g8
      clear hx hrs g7 g8 g hu hv
      generalize upd (upd H' u (.lst [V.int A, V.int B])) v (.lst ([f1, f2].map V.int)) = H8 at hx8 d8 g8' ⊢
      have one_row : Row n.toNat [f1] := ⟨List.pairwise_singleton _ _, fun x hx => by rw [List.mem_singleton.mp hx]; omega⟩
      have two_row : ∀ s : Int, f1 ≠ f2 → s.natAbs = f2.natAbs → Row n.toNat [f1, s] := fun s hne e => by
        refine ⟨List.pairwise_cons.mpr ⟨fun y hy => ?_, List.pairwise_singleton _ _⟩, fun x hx => ?_⟩
        · rw [List.mem_singleton.mp hy]
          omega
        · simp only [List.mem_cons, List.not_mem_nil, or_false] at hx
          rcases hx with rfl | rfl <;> omega
      walk_at "rds"
      refine rd_ite2p (fun y H' => ∃ q r, y = .ref q ∧ Evl.Ex H8 H' ∧ Row n.toNat r ∧ SqT K H' q (r.map V.int)) (fun c R kR => ?_) (fun c R kR => ?_) fun y H9 hy => ?_
      · walk_at "rds"
        refine ⟨(by show 1 ≤ sizeLine; decide), fun q1 hq1 => ?_⟩
        exact kR _ _ ⟨q1, [f1], rfl, Evl.Ex.new hq1, one_row, SqT.of upd_same⟩
      · have hne : f1 ≠ f2 := fun e => c (by rw [e])
        walk_at "rds"
        refine rd_I (by decide) ?_
        walk_at "rds"
        refine rd_ite (fun c2 => ?_) (fun c2 => ?_)
        · walk_at "rds"
          refine ⟨(by show 2 ≤ sizeLine; decide), fun q1 hq1 => ?_⟩
          exact kR _ _ ⟨q1, [f1, -f2], rfl, Evl.Ex.new hq1, two_row _ hne (Int.natAbs_neg f2), SqT.of upd_same⟩
        · walk_at "rds"
          refine ⟨(by show 2 ≤ sizeLine; decide), fun q1 hq1 => ?_⟩
          exact kR _ _ ⟨q1, [f1, f2], rfl, Evl.Ex.new hq1, two_row _ hne rfl, SqT.of upd_same⟩
      obtain ⟨q1, r1, rfl, e9, hr1, s9⟩ := hy
      have g9 := Gl.ex e9 g8'.dk
      have hx9 : H9 p = some (.lst xs) := e9 _ _ hx8
      have d9 := dpAll_ex e9 _ _ d8
      have hl1 := hr1.length
      walk_at "rds"
      refine rd_tyL hx9 ?_
      walk_at "rds"
      refine rd_ref s9 ?_
      refine lc_glT (xs := r1.map V.int) (fun i acc => ∃ ts : List Int, acc = ts.map V.int ∧ ts.map Int.natAbs = (r1.take i).map Int.natAbs)
        (σx := fun x => [some (.ref d), some (.int n), some (.int many), some (.ref p), some (.int (1 + st)), some (.int (0 + (i : Int))), some (.int A), some (.int B), some (.int f1), some (.int f2), some (.ref q1), some x])
        g9.dk s9 (by rw [List.length_map]; omega) (fun _ => rfl) (fun _ => rfl) ⟨[], rfl, rfl⟩ (fun i x hx acc Ha N S ga hP kN kS => ?_) fun D acc Ha ga eD hacc hP => ?_
      · obtain ⟨ts, rfl, et⟩ := hP
        rw [List.getElem?_map] at hx
        obtain ⟨t, ht, rfl⟩ := Option.map_eq_some_iff.mp hx
        walk_at "rds"
        refine ⟨d, l, 3, rfl, ga.dk, by decide, by decide, fun ub Hb gb u0 u1 => ?_⟩
        have fin : ∀ s : Int, s.natAbs = t.natAbs → N (.int s) Hb := fun s e => by
          refine kN _ _ gb ⟨ts ++ [s], by rw [List.map_append] <;> rfl, ?_⟩
          rw [List.take_add_one, ht, List.map_append, List.map_append, et]
          show _ ++ [s.natAbs] = _ ++ [t.natAbs]
          rw [e]
        walk_at "rds"
        refine rd_ite (fun c => ?_) (fun c => ?_)
        · walk_at "rds"
          exact fin _ (Int.natAbs_neg t)
        · walk_at "rds"
          exact fin _ rfl
      · obtain ⟨ts, rfl, et⟩ := hP
        rw [List.length_map, List.take_of_length_le (Nat.le_refl _)] at et
        walk_at "rds"
        refine rd_tupL (SqL.of hacc) fun z hz => ?_
        have gz := ga.trans (Gl.new (o := .tup (ts.map V.int)) ga.dk hz)
        have xz := gz.kp p _ pd pl hx9
        walk_at "rds"
        refine rd_append xz (by omega) ?_
        walk_at "rds"
        refine ⟨_, _, _, _, _, _, _, xs ++ [V.ref z], rs ++ [ts], rfl, Gl.mut ((g8'.trans g9).trans gz) hD hp0, upd_same, rows_upd xz (rows_app (Gl.rows gz g9.dk d9) (dp_of_row (SqT.of upd_same))), fun r h => (List.mem_append.mp h).elim (hrow r) fun h => List.mem_singleton.mp h ▸ hr1.abs et, ?_⟩
        rw [List.length_append, List.length_singleton]
        omega
    · obtain ⟨x5, x6, x7, x8, x9, xa, xb, xs, rs, rfl, g, hx, hrs, hrow, hlen⟩ := hP
      walk_at "rds"
      refine ⟨d, l, n, rfl, g.dk, by omega, n1, fun z H3 g3 hz => ?_⟩
      have x3 := g3.kp p _ pd pl hx
      have d3 := Gl.rows g3 g.dk hrs
      walk_at "rds"
      refine ⟨p, xs, rs, n.toNat, rfl, SqL.of x3, d3, hrow, by omega, by omega, fun c ys ss H4 e4 hc x4 d4 hsub hnd => ?_⟩
      walk_at "rds"
      refine rd_tupL (SqL.of x4) fun o ho => ?_
      have e6 := Evl.Ex.new (o := .tup ys) ho
      walk_at "rds"
      refine ⟨(by show 2 ≤ sizeLine; decide), fun p2 hp2 => ?_⟩
      have e7 := Evl.Ex.new (o := .tup [V.str z, V.ref o]) hp2
      have g7 := (g.trans g3).trans (Gl.ex (e4.trans (e6.trans e7)) g3.dk)
      refine q p2 z n.toNat ss _ g7 (by omega) (by omega) ⟨o, ys, SqT.of upd_same, Evl.ex_t e7 (SqT.of upd_same), dpAll_ex (e6.trans e7) _ _ d4, hz, fun r h => hrow r (hsub.subset h), hnd⟩ (by have := hsub.length_le; omega)
end
end KA
set_option Elab.async false
set_option linter.all false
set_option maxRecDepth 100000
set_option maxHeartbeats 400000
namespace KA
open PySem PySem.Spec PyProof.Rows L2 Ea
abbrev sowner_of : Stmt := topS 5
theorem scowner_of : FnScope ["sentence", "letter"] ["sentence", "letter"] (defScope sowner_of) :=
  ⟨rfl, rfl, rfl, by decide +kernel, rfl, by decide +kernel, by decide +kernel⟩
abbrev sless : Stmt := topS 6
theorem scless : FnScope ["sentence", "places", "owners", "clauses", "place", "clause"] ["sentence", "places"] (defScope sless) :=
  ⟨rfl, rfl, rfl, by decide +kernel, rfl, by decide +kernel, by decide +kernel⟩
local macro_rules | `(tactic| walk_at "rd") => `(tactic| first
  | (with_reducible refine rd_seq ?_) | (with_reducible refine rd_asg ?_) | (with_reducible refine rd_if ?_) | (with_reducible refine rd_ret ?_) | (with_reducible refine rd_next ?_)
  | (with_reducible refine rd_drop ?_) | ((with_reducible refine rd_name (σ' := ?ss) ?hs ?_); (case hs => (dsimp only [List.set]; exact rfl)))
  | ((with_reducible refine rd_var (v := ?vv) ?hv ?_); (case hv => exact rfl)) | (with_reducible refine rd_c ?_) | (with_reducible refine rd_op ?_) | (with_reducible refine rd_un ?_)
  | (with_reducible refine rd_I0 ?_) | (with_reducible refine rd_U ?_) | (with_reducible refine rd_test ?_) | (with_reducible refine rd_B ?_) | (with_reducible refine rd_k ?_)
  | (with_reducible refine rd_not ?_) | (with_reducible refine rd_and ?_) | (with_reducible refine rd_or ?_) | (with_reducible refine rd_ifE ?_)
  | (with_reducible refine rd_par ?_) | ((with_reducible refine rd_par2 (σ' := ?ss) ?hs ?_); (case hs => (dsimp only [List.set]; exact rfl)))
  | (with_reducible refine rd_gsub ?_) | (with_reducible refine rd_andV ?_) | (with_reducible refine rd_orV ?_) | (with_reducible refine rd_notV ?_)
  | (with_reducible refine rd_lc ?_) | (with_reducible refine rd_iTup ?_) | (with_reducible refine rd_iList ?_) | (with_reducible refine rd_iRng1 ?_) | (with_reducible refine rd_iRng2 ?_) | (with_reducible refine rd_iEnumT ?_) | (with_reducible refine rd_iEnum ?_) | (with_reducible refine rd_iZipM ?_)
  | (with_reducible refine rd_yes ?_) | (with_reducible refine rd_true ?_) | (with_reducible refine rd_false ?_) | (with_reducible refine rd_m1 ?_) | (with_reducible refine rd_isS ?_)
  | ((with_reducible refine rd_eq ?hs ?_); (case hs => exact rfl)) | ((with_reducible refine rd_ne ?hs ?_); (case hs => exact rfl))
  | (with_reducible refine rd_listRg ?_) | (with_reducible refine rd_rg2 ?_) | (with_reducible refine rd_rgk ?_)
  | (with_reducible refine rd_dnew ?_) | (with_reducible refine rd_ddel ?_) | (with_reducible refine rd_kw ?_) | (with_reducible refine rd_callS ?_) | (with_reducible refine rd_dc ?_) | (with_reducible refine rd_for ?_) | (with_reducible refine rd_tru ?_) | (with_reducible refine rd_truI ?_)
  | (with_reducible refine rd_nil ?_) | (with_reducible refine rd_cons ?_) | (with_reducible refine rd_call ?_) | (with_reducible refine rd_cb ?_)
  | (with_reducible refine rd_tup ?_) | (with_reducible refine rd_lst ?_) | (with_reducible refine rd_dget ?_) | (with_reducible refine rd_dput ?_) | (with_reducible refine rd_dget2 ?_) | (with_reducible refine rd_sl ?_)
  | (with_reducible refine rd_nopart ?_) | (with_reducible refine rd_part ?_) | (with_reducible refine rd_parti ?_) | (with_reducible refine rd_bm ?_) | (with_reducible refine rd_bm0 ?_)
  | (with_reducible refine rd_int ?_) | (with_reducible refine rd_intb ?_) | (with_reducible refine rd_abs ?_) | (with_reducible refine rd_min2 ?_) | (with_reducible refine rd_max2 ?_))
local macro_rules | `(tactic| walk_at "rds") => `(tactic| repeat (walk_at "rd"))
local macro_rules | `(tactic| walk_at "rq") => `(tactic| first
  | (with_reducible refine rd_seq ?_) | (with_reducible refine rd_asg ?_) | (with_reducible refine rd_ret ?_) | (with_reducible refine rd_next ?_)
  | (with_reducible refine rd_drop ?_) | ((with_reducible refine rd_name (σ' := ?ss) ?hs ?_); (case hs => (dsimp only [List.set]; exact rfl)))
  | ((with_reducible refine rd_var (v := ?vv) ?hv ?_); (case hv => exact rfl)) | (with_reducible refine rd_c ?_) | (with_reducible refine rd_op ?_) | (with_reducible refine rd_un ?_)
  | (with_reducible refine rd_I0 ?_) | (with_reducible refine rd_U ?_) | (with_reducible refine rd_test ?_) | (with_reducible refine rd_B ?_) | (with_reducible refine rd_k ?_)
  | (with_reducible refine rd_not ?_) | (with_reducible refine rd_and ?_) | (with_reducible refine rd_or ?_) | (with_reducible refine rd_ifE ?_)
  | (with_reducible refine rd_par ?_) | ((with_reducible refine rd_par2 (σ' := ?ss) ?hs ?_); (case hs => (dsimp only [List.set]; exact rfl)))
  | (with_reducible refine rd_gsub ?_) | (with_reducible refine rd_andV ?_) | (with_reducible refine rd_orV ?_) | (with_reducible refine rd_notV ?_)
  | (with_reducible refine rd_lc ?_) | (with_reducible refine rd_iTup ?_) | (with_reducible refine rd_iList ?_) | (with_reducible refine rd_iRng1 ?_) | (with_reducible refine rd_iRng2 ?_) | (with_reducible refine rd_iEnumT ?_) | (with_reducible refine rd_iEnum ?_) | (with_reducible refine rd_iZipM ?_)
  | (with_reducible refine rd_yes ?_) | (with_reducible refine rd_true ?_) | (with_reducible refine rd_false ?_) | (with_reducible refine rd_m1 ?_) | (with_reducible refine rd_isS ?_)
  | ((with_reducible refine rd_eq ?hs ?_); (case hs => exact rfl)) | ((with_reducible refine rd_ne ?hs ?_); (case hs => exact rfl))
  | (with_reducible refine rd_listRg ?_) | (with_reducible refine rd_rg2 ?_) | (with_reducible refine rd_rgk ?_)
  | (with_reducible refine rd_dnew ?_) | (with_reducible refine rd_ddel ?_) | (with_reducible refine rd_kw ?_) | (with_reducible refine rd_callS ?_) | (with_reducible refine rd_dc ?_) | (with_reducible refine rd_for ?_) | (with_reducible refine rd_tru ?_) | (with_reducible refine rd_truI ?_)
  | (with_reducible refine rd_nil ?_) | (with_reducible refine rd_cons ?_) | (with_reducible refine rd_call ?_) | (with_reducible refine rd_cb ?_)
  | (with_reducible refine rd_tup ?_) | (with_reducible refine rd_lst ?_) | (with_reducible refine rd_dget ?_) | (with_reducible refine rd_dput ?_) | (with_reducible refine rd_dget2 ?_) | (with_reducible refine rd_sl ?_)
  | (with_reducible refine rd_nopart ?_) | (with_reducible refine rd_part ?_) | (with_reducible refine rd_parti ?_) | (with_reducible refine rd_bm ?_) | (with_reducible refine rd_bm0 ?_)
  | (with_reducible refine rd_int ?_) | (with_reducible refine rd_intb ?_) | (with_reducible refine rd_abs ?_) | (with_reducible refine rd_min2 ?_) | (with_reducible refine rd_max2 ?_))
local macro_rules | `(tactic| walk_at "rqs") => `(tactic| repeat (walk_at "rq"))

/-- what less leaves -/
def kept (ps : List Int) (xs : List V) : List V := ((List.range xs.length).filter fun i : Nat => !decide ((i : Int) ∈ ps)).map fun i => xs.getD i .non
section
variable {P : Program} {w : World} {K : PySem.W.Frag} {mg : Str → Option Value} {base : Heap}
def spOwner (K : PySem.W.Frag) : Sp := fun vs H Q _ => ∃ (a c : Addr) (z : Str) (n : Nat) (x : Int), vs = [.ref a, .int x] ∧ SqT K H a [.str z, .ref c] ∧ OwnS n z ∧ n ≤ 60 ∧ 1 ≤ x ∧ x ≤ n ∧ Q (.str ⟨#[sgn z x]⟩) H
theorem ok_owner {f : Addr} {fd : FuncData} (F : Fun K "owner_of" "owner_of" sowner_of f fd) (T : Bl mg) : FnOk P w K mg base CX0 1 f fd ["sentence", "letter"] (spOwner K) := by
  refine F.ok scowner_of (fun vs H Q E h => ?_) (fun cdv A outer s H vs Q E hr h => ?_)
  · obtain ⟨a, c, z, n, x, rfl, _⟩ := h
    rfl
  · obtain ⟨a, c, z, n, x, rfl, ha, hz, hn, x0, x1, q⟩ := h
    refine ⟨_, (pss_one (ps_ret (pe_ix ix_str (pe_ix (ik_tup (K := K) rfl) (pv 0) pe_int (fun _ _ => rfl)) (pe_op op_sub (pv 1) pe_int) (fun _ _ => rfl)))), ?_⟩
    refine rd_start (σ' := [some (.ref a), some (.int x)]) rfl ?_
    walk_at "rds"
    refine rd_ixT (x := .str z) ha rfl ?_
    walk_at "rds"
    have e : (x.natAbs : Int) - 1 = x - 1 := by omega
    exact rd_ixS (by rw [hz.1, sizeLine_eq]; omega) (e ▸ at_sgn hz (by omega) (by omega)) q
def spLess (K : PySem.W.Frag) : Sp := fun vs H Q _ => ∃ (a c p : Addr) (z : Str) (xs : List V) (ps : List Int), vs = [.ref a, .ref p] ∧ SqT K H a [.str z, .ref c] ∧ SqT K H c xs ∧ SqT K H p (ps.map V.int) ∧ xs.length ≤ 1000 ∧
  ∀ (q r : Addr) (H' : Hp), Evl.Ex H H' → SqT K H' q [.str z, .ref r] → SqT K H' r (kept ps xs) → Q (.ref q) H'
theorem ok_less {f : Addr} {fd : FuncData} (F : Fun K "less" "less" sless f fd) (T : Bl mg) : FnOk P w K mg base CX0 1 f fd ["sentence", "places"] (spLess K) := by
  refine F.ok scless (fun vs H Q E h => ?_) (fun cdv A outer s H vs Q E hr h => ?_)
  · obtain ⟨a, c, p, z, xs, ps, rfl, _⟩ := h
    rfl
  · obtain ⟨a, c, p, z, xs, ps, rfl, ha, hc, hp, hl, q⟩ := h
    refine ⟨_, (pss_cons (ps_asg (pv 0) (pgk_tup (K := K) rfl rfl (pgs_cons (pg_name (i := 2) scless.nd rfl (Or.inl rfl)) (pgs_cons (pg_name (i := 3) scless.nd rfl (Or.inl rfl)) pgs_nil))))
 (pss_one (ps_ret (pe_tup (pa_cons (pv 2) (pa_cons (pe_callTy (c_tuple (K := K) rfl) (by rfl) T.tuple (by decide +kernel) (pa_cons (pe_lc (own := [("place", 4), ("clause", 5)]) (g := gTup K 2 (gCons (gName 4) (gCons (gName 5) gNil))) rfl scless.nd (pi_enumT (K := K) rfl (by rfl) T.enumerate (pa_cons (pv 3) pa_nil)) (blkOk_by (own := [("place", 4), ("clause", 5)]) (N := ["sentence", "places", "owners", "clauses", "place", "clause"]) (sc := defScope sless) (by decide +kernel)) (fun _ _ _ _ _ => (pgk_tup (K := K) rfl rfl (pgs_cons (pg_name (i := 4) scless.nd rfl (Or.inl rfl)) (pgs_cons (pg_name (i := 5) scless.nd rfl (Or.inl rfl)) pgs_nil)))) (fun _ _ _ _ _ => (pts_one (pt_cmpR (ok_notIn (K := K) rfl) (pv 4) (pv 1) (by rfl)))) (fun _ _ _ _ _ => (pv 5))) pa_nil)) pa_nil)))))), ?_⟩
    refine rd_start (σ' := [some (.ref a), some (.ref p), none, none, none, none]) rfl ?_
    walk_at "rds"
    refine rd_gtup2 (x := .str z) (y := .ref c) ha rfl (σ' := [some (.ref a), some (.ref p), some (.str z), some (.ref c), none, none]) rfl ?_
    walk_at "rds"
    refine ⟨c, xs, rfl, hc, ?_⟩
    refine lc_enumT rfl hc (by omega) (σx := fun x y => [some (.ref a), some (.ref p), some (.str z), some (.ref c), some x, some y]) (fun _ _ => rfl) (fun _ _ => rfl)
      (fun i : Nat => !decide ((i : Int) ∈ ps)) (fun i => xs.getD i .non) (fun i hi H' N S e kN kS => ?_) fun D H1 e1 eD hD => ?_
    · walk_at "rds"
      refine rd_notInT (Evl.ex_t e hp) ?_
      walk_at "rds"
      refine rd_iteb (fun c => ?_) (fun c => ?_)
      · walk_at "rds"
        exact kN c _ (Evl.Ex.refl _)
      · exact kS c _ (Evl.Ex.refl _)
    walk_at "rds"
    refine rd_tupL (SqL.of hD) fun o ho => ?_
    have e2 := Evl.Ex.new (o := .tup (((List.range xs.length).filter fun i : Nat => !decide ((i : Int) ∈ ps)).map fun i => xs.getD i .non)) ho
    walk_at "rds"
    refine ⟨(by show 2 ≤ sizeLine; decide), fun p2 hp2 => ?_⟩
    have e3 := Evl.Ex.new (o := .tup [V.str z, V.ref o]) hp2
    exact q p2 o _ ((e1.trans e2).trans e3) (SqT.of upd_same) (Evl.ex_t e3 (SqT.of upd_same))
end
end KA
set_option Elab.async false
set_option linter.all false
set_option maxRecDepth 100000
set_option maxHeartbeats 400000
namespace Ea
open PySem PySem.Spec PyProof.Rows L2
theorem valV_mem {k : Key} {v : V} : ∀ {kvs : List (Key × V)}, valV kvs k = some v → k ∈ kvs.map (·.1)
  | [], h => by cases h
  | p :: r, h => by
    by_cases e : p.1 = k
    · exact List.mem_cons.mpr (.inl e.symm)
    · rw [valV_neg e] at h
      exact List.mem_cons_of_mem _ (valV_mem h)
def Contr (xs : List Int) : Prop := ∃ x ∈ xs, -x ∈ xs
def ClauseOf (xs r : List Int) : Prop := r.Pairwise (fun x y => x.natAbs < y.natAbs) ∧ ∀ x, x ∈ r ↔ x ∈ xs
theorem ClauseOf.eq {xs r t : List Int} (h1 : ClauseOf xs r) (h2 : ClauseOf xs t) : r = t := eq_of_asc h1.1 h2.1 fun x => (h1.2 x).trans (h2.2 x).symm
theorem same_nc {xs : List Int} (h : ¬ Contr xs) {x y : Int} (hx : x ∈ xs) (hy : y ∈ xs) (e : x.natAbs = y.natAbs) : x = y := by
  have opp : x = y ∨ y = -x := by omega
  rcases opp with q | q
  · exact q
  · exact absurd ⟨x, hx, q ▸ hy⟩ h
theorem Dic.clause {ws : List Int} {kvs : List (Key × V)} (h : Dic ws kvs) (nc : ¬ Contr ws) {ys : List Int} (so : ys.Pairwise (· < ·)) (hy : ∀ k, k ∈ ys ↔ ∃ x ∈ ws, (x.natAbs : Int) = k) : ClauseOf ws (ys.map (litOf kvs)) := by
  have hl : ∀ k ∈ ys, litOf kvs k ∈ ws ∧ ((litOf kvs k).natAbs : Int) = k := fun k hk => (h.lit ((hy k).mp hk)).2
  refine ⟨?_, fun x => ⟨fun hx => ?_, fun hx => ?_⟩⟩
  · rw [List.pairwise_map]
    refine List.Pairwise.imp_of_mem (fun {p q} hp hq hlt => ?_) so
    have h1 := (hl p hp).2
    have h2 := (hl q hq).2
    omega
  · obtain ⟨k, hk, rfl⟩ := List.mem_map.mp hx
    exact (hl k hk).1
  · have hk : (x.natAbs : Int) ∈ ys := (hy _).mpr ⟨x, hx, rfl⟩
    obtain ⟨h1, h2⟩ := hl _ hk
    exact List.mem_map.mpr ⟨_, hk, same_nc nc h1 hx (by omega)⟩
theorem rd_dget2 {td ty tx : TE} {σ : L2.St} {H : Hp} {Q : VK} (h : td σ H fun x H1 => ∃ a, x = .ref a ∧ IsD H1 a ∧ ty σ H1 fun y H2 => tx σ H2 fun z H3 => ∃ o, DGet H3 a y o ∧ Q (o.getD z) H3) : tDGet2 td ty tx σ H Q := h
end Ea
namespace KA
open PySem PySem.Spec PyProof.Rows L2 Ea
abbrev sclause_of : Stmt := topS 4
theorem scclause_of : FnScope ["literals", "by_letter", "literal", "letter"] ["literals"] (defScope sclause_of) :=
  ⟨rfl, rfl, rfl, by decide +kernel, rfl, by decide +kernel, by decide +kernel⟩
local macro_rules | `(tactic| walk_at "rd") => `(tactic| first
  | (with_reducible refine rd_seq ?_) | (with_reducible refine rd_asg ?_) | (with_reducible refine rd_if ?_) | (with_reducible refine rd_ret ?_) | (with_reducible refine rd_next ?_)
  | (with_reducible refine rd_drop ?_) | ((with_reducible refine rd_name (σ' := ?ss) ?hs ?_); (case hs => (dsimp only [List.set]; exact rfl)))
  | ((with_reducible refine rd_var (v := ?vv) ?hv ?_); (case hv => exact rfl)) | (with_reducible refine rd_c ?_) | (with_reducible refine rd_op ?_) | (with_reducible refine rd_un ?_)
  | (with_reducible refine rd_I0 ?_) | (with_reducible refine rd_U ?_) | (with_reducible refine rd_test ?_) | (with_reducible refine rd_B ?_) | (with_reducible refine rd_k ?_)
  | (with_reducible refine rd_not ?_) | (with_reducible refine rd_and ?_) | (with_reducible refine rd_or ?_) | (with_reducible refine rd_ifE ?_)
  | (with_reducible refine rd_par ?_) | ((with_reducible refine rd_par2 (σ' := ?ss) ?hs ?_); (case hs => (dsimp only [List.set]; exact rfl)))
  | (with_reducible refine rd_gsub ?_) | (with_reducible refine rd_andV ?_) | (with_reducible refine rd_orV ?_) | (with_reducible refine rd_notV ?_)
  | (with_reducible refine rd_lc ?_) | (with_reducible refine rd_iTup ?_) | (with_reducible refine rd_iList ?_) | (with_reducible refine rd_iRng1 ?_) | (with_reducible refine rd_iRng2 ?_) | (with_reducible refine rd_iEnumT ?_) | (with_reducible refine rd_iEnum ?_) | (with_reducible refine rd_iZipM ?_)
  | (with_reducible refine rd_yes ?_) | (with_reducible refine rd_true ?_) | (with_reducible refine rd_false ?_) | (with_reducible refine rd_m1 ?_) | (with_reducible refine rd_isS ?_)
  | ((with_reducible refine rd_eq ?hs ?_); (case hs => exact rfl)) | ((with_reducible refine rd_ne ?hs ?_); (case hs => exact rfl))
  | (with_reducible refine rd_listRg ?_) | (with_reducible refine rd_rg2 ?_) | (with_reducible refine rd_rgk ?_)
  | (with_reducible refine rd_dnew ?_) | (with_reducible refine rd_ddel ?_) | (with_reducible refine rd_kw ?_) | (with_reducible refine rd_callS ?_) | (with_reducible refine rd_dc ?_) | (with_reducible refine rd_for ?_) | (with_reducible refine rd_tru ?_) | (with_reducible refine rd_truI ?_)
  | (with_reducible refine rd_nil ?_) | (with_reducible refine rd_cons ?_) | (with_reducible refine rd_call ?_) | (with_reducible refine rd_cb ?_)
  | (with_reducible refine rd_tup ?_) | (with_reducible refine rd_lst ?_) | (with_reducible refine rd_dget ?_) | (with_reducible refine rd_dput ?_) | (with_reducible refine rd_dget2 ?_) | (with_reducible refine rd_sl ?_)
  | (with_reducible refine rd_nopart ?_) | (with_reducible refine rd_part ?_) | (with_reducible refine rd_parti ?_) | (with_reducible refine rd_bm ?_) | (with_reducible refine rd_bm0 ?_)
  | (with_reducible refine rd_int ?_) | (with_reducible refine rd_intb ?_) | (with_reducible refine rd_abs ?_) | (with_reducible refine rd_min2 ?_) | (with_reducible refine rd_max2 ?_))
local macro_rules | `(tactic| walk_at "rds") => `(tactic| repeat (walk_at "rd"))
local macro_rules | `(tactic| walk_at "rq") => `(tactic| first
  | (with_reducible refine rd_seq ?_) | (with_reducible refine rd_asg ?_) | (with_reducible refine rd_ret ?_) | (with_reducible refine rd_next ?_)
  | (with_reducible refine rd_drop ?_) | ((with_reducible refine rd_name (σ' := ?ss) ?hs ?_); (case hs => (dsimp only [List.set]; exact rfl)))
  | ((with_reducible refine rd_var (v := ?vv) ?hv ?_); (case hv => exact rfl)) | (with_reducible refine rd_c ?_) | (with_reducible refine rd_op ?_) | (with_reducible refine rd_un ?_)
  | (with_reducible refine rd_I0 ?_) | (with_reducible refine rd_U ?_) | (with_reducible refine rd_test ?_) | (with_reducible refine rd_B ?_) | (with_reducible refine rd_k ?_)
  | (with_reducible refine rd_not ?_) | (with_reducible refine rd_and ?_) | (with_reducible refine rd_or ?_) | (with_reducible refine rd_ifE ?_)
  | (with_reducible refine rd_par ?_) | ((with_reducible refine rd_par2 (σ' := ?ss) ?hs ?_); (case hs => (dsimp only [List.set]; exact rfl)))
  | (with_reducible refine rd_gsub ?_) | (with_reducible refine rd_andV ?_) | (with_reducible refine rd_orV ?_) | (with_reducible refine rd_notV ?_)
  | (with_reducible refine rd_lc ?_) | (with_reducible refine rd_iTup ?_) | (with_reducible refine rd_iList ?_) | (with_reducible refine rd_iRng1 ?_) | (with_reducible refine rd_iRng2 ?_) | (with_reducible refine rd_iEnumT ?_) | (with_reducible refine rd_iEnum ?_) | (with_reducible refine rd_iZipM ?_)
  | (with_reducible refine rd_yes ?_) | (with_reducible refine rd_true ?_) | (with_reducible refine rd_false ?_) | (with_reducible refine rd_m1 ?_) | (with_reducible refine rd_isS ?_)
  | ((with_reducible refine rd_eq ?hs ?_); (case hs => exact rfl)) | ((with_reducible refine rd_ne ?hs ?_); (case hs => exact rfl))
  | (with_reducible refine rd_listRg ?_) | (with_reducible refine rd_rg2 ?_) | (with_reducible refine rd_rgk ?_)
  | (with_reducible refine rd_dnew ?_) | (with_reducible refine rd_ddel ?_) | (with_reducible refine rd_kw ?_) | (with_reducible refine rd_callS ?_) | (with_reducible refine rd_dc ?_) | (with_reducible refine rd_for ?_) | (with_reducible refine rd_tru ?_) | (with_reducible refine rd_truI ?_)
  | (with_reducible refine rd_nil ?_) | (with_reducible refine rd_cons ?_) | (with_reducible refine rd_call ?_) | (with_reducible refine rd_cb ?_)
  | (with_reducible refine rd_tup ?_) | (with_reducible refine rd_lst ?_) | (with_reducible refine rd_dget ?_) | (with_reducible refine rd_dput ?_) | (with_reducible refine rd_dget2 ?_) | (with_reducible refine rd_sl ?_)
  | (with_reducible refine rd_nopart ?_) | (with_reducible refine rd_part ?_) | (with_reducible refine rd_parti ?_) | (with_reducible refine rd_bm ?_) | (with_reducible refine rd_bm0 ?_)
  | (with_reducible refine rd_int ?_) | (with_reducible refine rd_intb ?_) | (with_reducible refine rd_abs ?_) | (with_reducible refine rd_min2 ?_) | (with_reducible refine rd_max2 ?_))
local macro_rules | `(tactic| walk_at "rqs") => `(tactic| repeat (walk_at "rq"))

section
variable {P : Program} {w : World} {K : PySem.W.Frag} {mg : Str → Option Value} {base : Heap}
def spClauseOf (K : PySem.W.Frag) (C : Addr) : Sp := fun vs H Q E => ∃ (a : Addr) (xs : List Int), vs = [.ref a] ∧ SqT K H a (xs.map V.int) ∧ xs.length ≤ 1000 ∧ (∀ x ∈ xs, 1 ≤ x.natAbs ∧ x.natAbs ≤ 60) ∧
  (¬ Contr xs → ∀ (q : Addr) (r : List Int) (H' : Hp), Evl.Ex H H' → ClauseOf xs r → SqT K H' q (r.map V.int) → Q (.ref q) H') ∧ (Contr xs → ∀ H', Evl.Ex H H' → E (.ref C) none H')
theorem ok_clause_of {f C : Addr} {fd : FuncData} (F : Fun K "clause_of" "clause_of" sclause_of f fd) (T : Bl mg) (UUnfit : ExcF K mg "Unfit" C) : FnOk P w K mg base (L2.CX P w) 1 f fd ["literals"] (spClauseOf K C) := by
  refine F.okX scclause_of (fun vs H Q E h => ?_) (fun cdv A outer s H vs Q E hr h => ?_)
  · obtain ⟨a, xs, rfl, _⟩ := h
    rfl
  · obtain ⟨a, xs, rfl, ha, hl, hb, q1, q2⟩ := h
    refine ⟨_, (pss_cons (ps_set (i := 1) scclause_of.nd rfl (Or.inr rfl) pe_dnewK)
 (pss_cons (ps_for (passes_of rfl) rfl (ik_tupI (K := K) rfl (pv 0)) (pg_name (i := 2) scclause_of.nd rfl (Or.inl rfl)) (pss_cons (ps_if (pt_cmpR op_ne (pe_dget2 (hu_of hr) (pv 1) (pe_callB c_abs (by rfl) T.abs (by decide +kernel) (pa_cons (pv 2) pa_nil)) (pv 2) ⟨by rfl, by rfl, by rfl, by rfl⟩) (pv 2) (nomark _)) (pss_one (ps_raise rfl (takes_of rfl rfl rfl rfl) (pmk_own0 PySem.F.excBase_ValueError UUnfit.x UUnfit.g UUnfit.k (raises_own UUnfit.b UUnfit.t) rfl))) pss_nil)
 (pss_one (ps_dput (hu_of hr) (pv 1) (pe_callB c_abs (by rfl) T.abs (by decide +kernel) (pa_cons (pv 2) pa_nil)) (pv 2) rfl))))
 (pss_one (ps_ret (pe_callTy (c_tuple (K := K) rfl) (by rfl) T.tuple (by decide +kernel) (pa_cons (pe_lc (own := [("letter", 3)]) (g := gName 3) rfl scclause_of.nd (ik_listI (K := K) rfl (pe_callB (c_sortedD rfl) (by rfl) T.sorted (by decide +kernel) (pa_cons (pv 1) pa_nil))) (blkOk_by (own := [("letter", 3)]) (N := ["literals", "by_letter", "literal", "letter"]) (sc := defScope sclause_of) (by decide +kernel)) (fun _ _ _ _ _ => (pg_name (i := 3) scclause_of.nd rfl (Or.inl rfl))) (fun _ _ _ _ _ => pts_nil) (fun _ _ _ _ _ => (pe_dget (hu_of hr) (pv 1) (pv 3) (fun _ _ => rfl)))) pa_nil)))))), ?_⟩
    refine rd_start (σ' := [some (.ref a), none, none, none]) rfl ?_
    walk_at "rds"
    refine fun p hp => ?_
    have e1 : Evl.Ex H (upd H p (.dK [])) := Evl.Ex.new hp
    walk_at "rds"
    refine rd_ref (Evl.ex_t e1 ha) ?_
    refine fr_tup (xs := xs.map V.int) (fun i σ' H' => ∃ (y : Option V) (kvs : List (Key × V)), σ' = [some (.ref a), some (.ref p), y, none] ∧ Evl.Ex H H' ∧ H' p = some (.dK kvs) ∧ Dic (xs.take i) kvs ∧ ∀ x ∈ xs.take i, ∀ y ∈ xs.take i, x.natAbs = y.natAbs → x = y)
      ⟨_, [], rfl, e1, upd_same, Dic.nil, nofun⟩ (fun i σ' H' _ ⟨_, _, _, e, _⟩ => Evl.ex_t e ha) (fun i x σ' H' hi hP => ?_) fun σ' H' hP => ?_
    · obtain ⟨y, kvs, rfl, e, ep, dd, nc⟩ := hP
      rw [List.getElem?_map] at hi
      obtain ⟨t, ht, rfl⟩ := Option.map_eq_some_iff.mp hi
      have htm := List.mem_of_getElem? ht
      have hlk := dd.len
      rw [List.length_take] at hlk
      refine rd_start (σ' := [some (.ref a), some (.ref p), some (.int t), none]) rfl ?_
      walk_at "rds"
      refine ⟨p, rfl, .inl ⟨kvs, .inl ep⟩, ?_⟩
      walk_at "rds"
      refine ⟨valV kvs (.inl (t.natAbs : Int)), DGet.k (k := Sum.inl (t.natAbs : Int)) ep, ?_⟩
      obtain ⟨y2, ey, yn, hy⟩ : ∃ y2 : Int, (valV kvs (.inl (t.natAbs : Int))).getD (.int t) = .int y2 ∧ y2.natAbs = t.natAbs ∧ (y2 ∈ xs.take i ∨ (y2 = t ∧ ∀ x ∈ xs.take i, x.natAbs ≠ t.natAbs)) := by
        by_cases c : ∃ x ∈ xs.take i, (x.natAbs : Int) = t.natAbs
        · obtain ⟨x, hx, e1, e2⟩ := dd.val _ c
          exact ⟨x, by rw [e2] <;> rfl, by omega, .inl hx⟩
        · refine ⟨t, ?_, rfl, .inr ⟨rfl, fun x hx e => c ⟨x, hx, by omega⟩⟩⟩
          cases hv : valV kvs (.inl (t.natAbs : Int)) with
          | none => rfl
          | some v =>
            obtain ⟨ks, k1, _, k3⟩ := dd.ks
            have z := valV_mem hv
            rw [k1] at z
            obtain ⟨k, hk, e2⟩ := List.mem_map.mp z
            cases e2
            exact absurd ((k3 _).mp hk) c
      rw [ey]
      walk_at "rds"
      refine rd_iten (fun c => ?_) (fun c => ?_)
      · have hne : y2 ≠ t := fun e => c (by rw [e])
        have hyx : y2 ∈ xs := by
          rcases hy with h | h
          · exact List.mem_of_mem_take h
          · exact absurd h.1 hne
        have e3 : y2 = -t := by omega
        exact q2 ⟨t, htm, e3 ▸ hyx⟩ _ e
      · have e3 : y2 = t := V.int.inj c
        walk_at "rds"
        refine ⟨p, _, rfl, DPut.k (k := lk t) (v := .int t) ep (by rw [sizeLine_eq]; omega), ?_⟩
        walk_at "rds"
        refine ⟨_, putK kvs (lk t) (.int t), rfl, Evl.Ex.mut e hp, upd_same, ?_, ?_⟩
        · rw [List.take_add_one, ht]
          exact dd.put t
        · rw [List.take_add_one, ht]
          intro x hx z hz exz
          have key : ∀ w ∈ xs.take i, w.natAbs = t.natAbs → w = t := fun w hw ew => by
            rcases hy with h | h
            · exact nc w hw t (e3 ▸ h) ew
            · exact absurd ew (h.2 w hw)
          rcases List.mem_append.mp hx with hx | hx <;> rcases List.mem_append.mp hz with hz | hz
          · exact nc x hx z hz exz
          · have ez := List.mem_singleton.mp hz
            rw [ez] at exz ⊢
            exact key x hx exz
          · have ex := List.mem_singleton.mp hx
            rw [ex] at exz ⊢
            exact (key z hz exz.symm).symm
          · rw [List.mem_singleton.mp hx, List.mem_singleton.mp hz]
    · obtain ⟨y, kvs, rfl, e, ep, dd, nc⟩ := hP
      rw [List.length_map, List.take_of_length_le (Nat.le_refl _)] at dd nc
      have hnc : ¬ Contr xs := fun ⟨x, h1, h2⟩ => by
        have := nc x h1 (-x) h2 (by omega)
        have := (hb x h1).1
        omega
      obtain ⟨ks, k1, k2, k3⟩ := dd.ks
      have hks : ∀ j ∈ ks, 1 ≤ j ∧ j ≤ ((60 : Nat) : Int) := fun j hj => by
        obtain ⟨x, hx2, e⟩ := (k3 j).mp hj
        have := hb x hx2
        omega
      have kl : ks.length ≤ 60 := nodup_le k2 hks
      walk_at "rds"
      refine rd_sortD ep k1 (by omega) fun zs v pz so hv => ?_
      have zlt : zs.Pairwise (· < ·) := lt_of_sorted so (pz.nodup_iff.mpr k2)
      have zl : zs.length ≤ 60 := by rw [pz.length_eq]; exact kl
      have zm : ∀ j, j ∈ zs ↔ ∃ x ∈ xs, (x.natAbs : Int) = j := fun j => (pz.mem_iff).trans (k3 j)
      have pv' : p ≠ v := ne_of_none ep hv
      walk_at "rds"
      refine rd_refL (SqL.of upd_same) ?_
      refine lc_fmL (fun _ => true) (fun j => .int (litOf kvs j)) (σx := fun x => [some (.ref a), some (.ref p), y, some x])
        (SqL.of upd_same) (by omega) (fun _ => rfl) (fun _ => rfl) (fun j hj H6 N S ex kN kS => ?_) fun D H6 e6 eD hD => ?_
      · have hv1 : valV kvs (.inl j) = some (.int (litOf kvs j)) := (dd.lit ((zm j).mp hj)).1
        walk_at "rds"
        refine ⟨p, _, rfl, hv1 ▸ DGet.k (k := Sum.inl j) (ex _ _ ((upd_ne pv').trans ep)), ?_⟩
        exact kN rfl _ (Evl.Ex.refl _)
      rw [List.filter_eq_self.mpr fun _ _ => rfl] at hD
      walk_at "rds"
      refine rd_tupL (SqL.of hD) fun o ho => ?_
      refine q1 hnc o (zs.map (litOf kvs)) _ (((e.trans (Evl.Ex.new hv)).trans e6).trans (Evl.Ex.new ho)) (dd.clause hnc zlt zm) (SqT.of ?_)
      rw [upd_same, List.map_map]
      rfl
end
end KA
set_option Elab.async false
set_option linter.all false
set_option maxRecDepth 100000
set_option maxHeartbeats 400000
namespace KA
open PySem PySem.Spec PyProof.Rows L2 Ea
abbrev s_law_heard : Stmt := topS 17
theorem sc_law_heard : FnScope ["literals", "is_named", "refused"] ["literals", "is_named"] (defScope s_law_heard) :=
  ⟨rfl, rfl, rfl, by decide +kernel, rfl, by decide +kernel, by decide +kernel⟩
abbrev s_law_due : Stmt := topS 18
theorem sc_law_due : FnScope ["literals", "found", "letter", "x"] ["literals"] (defScope s_law_due) :=
  ⟨rfl, rfl, rfl, by decide +kernel, rfl, by decide +kernel, by decide +kernel⟩
local macro_rules | `(tactic| walk_at "rd") => `(tactic| first
  | (with_reducible refine rd_seq ?_) | (with_reducible refine rd_asg ?_) | (with_reducible refine rd_if ?_) | (with_reducible refine rd_ret ?_) | (with_reducible refine rd_next ?_)
  | (with_reducible refine rd_drop ?_) | ((with_reducible refine rd_name (σ' := ?ss) ?hs ?_); (case hs => (dsimp only [List.set]; exact rfl)))
  | ((with_reducible refine rd_var (v := ?vv) ?hv ?_); (case hv => exact rfl)) | (with_reducible refine rd_c ?_) | (with_reducible refine rd_op ?_) | (with_reducible refine rd_un ?_)
  | (with_reducible refine rd_I0 ?_) | (with_reducible refine rd_U ?_) | (with_reducible refine rd_test ?_) | (with_reducible refine rd_B ?_) | (with_reducible refine rd_k ?_)
  | (with_reducible refine rd_not ?_) | (with_reducible refine rd_and ?_) | (with_reducible refine rd_or ?_) | (with_reducible refine rd_ifE ?_)
  | (with_reducible refine rd_par ?_) | ((with_reducible refine rd_par2 (σ' := ?ss) ?hs ?_); (case hs => (dsimp only [List.set]; exact rfl)))
  | (with_reducible refine rd_gsub ?_) | (with_reducible refine rd_andV ?_) | (with_reducible refine rd_orV ?_) | (with_reducible refine rd_notV ?_)
  | (with_reducible refine rd_lc ?_) | (with_reducible refine rd_iTup ?_) | (with_reducible refine rd_iList ?_) | (with_reducible refine rd_iRng1 ?_) | (with_reducible refine rd_iRng2 ?_) | (with_reducible refine rd_iEnumT ?_) | (with_reducible refine rd_iEnum ?_) | (with_reducible refine rd_iZipM ?_)
  | (with_reducible refine rd_yes ?_) | (with_reducible refine rd_true ?_) | (with_reducible refine rd_false ?_) | (with_reducible refine rd_m1 ?_) | (with_reducible refine rd_isS ?_)
  | ((with_reducible refine rd_eq ?hs ?_); (case hs => exact rfl)) | ((with_reducible refine rd_ne ?hs ?_); (case hs => exact rfl))
  | (with_reducible refine rd_listRg ?_) | (with_reducible refine rd_rg2 ?_) | (with_reducible refine rd_rgk ?_)
  | (with_reducible refine rd_dnew ?_) | (with_reducible refine rd_ddel ?_) | (with_reducible refine rd_kw ?_) | (with_reducible refine rd_callS ?_) | (with_reducible refine rd_dc ?_) | (with_reducible refine rd_for ?_) | (with_reducible refine rd_tru ?_) | (with_reducible refine rd_truI ?_)
  | (with_reducible refine rd_nil ?_) | (with_reducible refine rd_cons ?_) | (with_reducible refine rd_call ?_) | (with_reducible refine rd_cb ?_)
  | (with_reducible refine rd_tup ?_) | (with_reducible refine rd_lst ?_) | (with_reducible refine rd_dget ?_) | (with_reducible refine rd_dput ?_) | (with_reducible refine rd_dget2 ?_) | (with_reducible refine rd_sl ?_)
  | (with_reducible refine rd_nopart ?_) | (with_reducible refine rd_part ?_) | (with_reducible refine rd_parti ?_) | (with_reducible refine rd_bm ?_) | (with_reducible refine rd_bm0 ?_)
  | (with_reducible refine rd_int ?_) | (with_reducible refine rd_intb ?_) | (with_reducible refine rd_abs ?_) | (with_reducible refine rd_min2 ?_) | (with_reducible refine rd_max2 ?_))
local macro_rules | `(tactic| walk_at "rds") => `(tactic| repeat (walk_at "rd"))
local macro_rules | `(tactic| walk_at "rq") => `(tactic| first
  | (with_reducible refine rd_seq ?_) | (with_reducible refine rd_asg ?_) | (with_reducible refine rd_ret ?_) | (with_reducible refine rd_next ?_)
  | (with_reducible refine rd_drop ?_) | ((with_reducible refine rd_name (σ' := ?ss) ?hs ?_); (case hs => (dsimp only [List.set]; exact rfl)))
  | ((with_reducible refine rd_var (v := ?vv) ?hv ?_); (case hv => exact rfl)) | (with_reducible refine rd_c ?_) | (with_reducible refine rd_op ?_) | (with_reducible refine rd_un ?_)
  | (with_reducible refine rd_I0 ?_) | (with_reducible refine rd_U ?_) | (with_reducible refine rd_test ?_) | (with_reducible refine rd_B ?_) | (with_reducible refine rd_k ?_)
  | (with_reducible refine rd_not ?_) | (with_reducible refine rd_and ?_) | (with_reducible refine rd_or ?_) | (with_reducible refine rd_ifE ?_)
  | (with_reducible refine rd_par ?_) | ((with_reducible refine rd_par2 (σ' := ?ss) ?hs ?_); (case hs => (dsimp only [List.set]; exact rfl)))
  | (with_reducible refine rd_gsub ?_) | (with_reducible refine rd_andV ?_) | (with_reducible refine rd_orV ?_) | (with_reducible refine rd_notV ?_)
  | (with_reducible refine rd_lc ?_) | (with_reducible refine rd_iTup ?_) | (with_reducible refine rd_iList ?_) | (with_reducible refine rd_iRng1 ?_) | (with_reducible refine rd_iRng2 ?_) | (with_reducible refine rd_iEnumT ?_) | (with_reducible refine rd_iEnum ?_) | (with_reducible refine rd_iZipM ?_)
  | (with_reducible refine rd_yes ?_) | (with_reducible refine rd_true ?_) | (with_reducible refine rd_false ?_) | (with_reducible refine rd_m1 ?_) | (with_reducible refine rd_isS ?_)
  | ((with_reducible refine rd_eq ?hs ?_); (case hs => exact rfl)) | ((with_reducible refine rd_ne ?hs ?_); (case hs => exact rfl))
  | (with_reducible refine rd_listRg ?_) | (with_reducible refine rd_rg2 ?_) | (with_reducible refine rd_rgk ?_)
  | (with_reducible refine rd_dnew ?_) | (with_reducible refine rd_ddel ?_) | (with_reducible refine rd_kw ?_) | (with_reducible refine rd_callS ?_) | (with_reducible refine rd_dc ?_) | (with_reducible refine rd_for ?_) | (with_reducible refine rd_tru ?_) | (with_reducible refine rd_truI ?_)
  | (with_reducible refine rd_nil ?_) | (with_reducible refine rd_cons ?_) | (with_reducible refine rd_call ?_) | (with_reducible refine rd_cb ?_)
  | (with_reducible refine rd_tup ?_) | (with_reducible refine rd_lst ?_) | (with_reducible refine rd_dget ?_) | (with_reducible refine rd_dput ?_) | (with_reducible refine rd_dget2 ?_) | (with_reducible refine rd_sl ?_)
  | (with_reducible refine rd_nopart ?_) | (with_reducible refine rd_part ?_) | (with_reducible refine rd_parti ?_) | (with_reducible refine rd_bm ?_) | (with_reducible refine rd_bm0 ?_)
  | (with_reducible refine rd_int ?_) | (with_reducible refine rd_intb ?_) | (with_reducible refine rd_abs ?_) | (with_reducible refine rd_min2 ?_) | (with_reducible refine rd_max2 ?_))
local macro_rules | `(tactic| walk_at "rqs") => `(tactic| repeat (walk_at "rq"))

/-- what is heard of clause_of, as data -/
def Heard (xs : List Int) (d : PyData) : Prop := (¬ Contr xs ∧ ∃ r, ClauseOf xs r ∧ d = .list [.str "told", .tuple (dI r)]) ∨ (Contr xs ∧ d = .list [.str "unfit", .bool true])
theorem Heard.eq {xs : List Int} {d e : PyData} (h : Heard xs d) (h2 : Heard xs e) : d = e := by
  rcases h with ⟨c, r, j, rfl⟩ | ⟨c, rfl⟩ <;> rcases h2 with ⟨c2, r2, j2, rfl⟩ | ⟨c2, rfl⟩
  · rw [j.eq j2]
  · exact absurd c2 c
  · exact absurd c c2
  · rfl
theorem clauseOf_row {xs r : List Int} (h : ClauseOf xs r) (hb : ∀ x ∈ xs, 1 ≤ x.natAbs ∧ x.natAbs ≤ 60) : Row 60 r := ⟨h.1, fun x hx => hb x ((h.2 x).mp hx)⟩
theorem nice_told : Nice 4 0 (.str "told") := Nice.str (by decide) (by decide) (by first | decide | decide +kernel | kernel_rfl | simp [PyData.canLay0])
theorem nice_unfit : Nice 5 0 (.str "unfit") := Nice.str (by decide) (by decide) (by first | decide | decide +kernel | kernel_rfl | simp [PyData.canLay0])
theorem Heard.nice {xs : List Int} {d : PyData} (h : Heard xs d) (hb : ∀ x ∈ xs, 1 ≤ x.natAbs ∧ x.natAbs ≤ 60) : Nice 70 2 d ∧ isDisplay d = true := by
  rcases h with ⟨c, r, j, rfl⟩ | ⟨c, rfl⟩
  · exact ⟨(Nice.lst ((nice_told.mono (Nat.le_refl 4) (by decide : 0 ≤ 1)).cons2 (nice_row (clauseOf_row j hb) (Nat.le_refl 60)))).mono (by decide) (by decide), rfl⟩
  · exact ⟨(Nice.lst (nice_unfit.cons2 (Nice.bool true))).mono (by decide) (by decide), rfl⟩
section
variable {P : Program} {w : World} {K : PySem.W.Frag} {mg : Str → Option Value} {base : Heap}
def spHeard (K : PySem.W.Frag) : Sp := fun vs H Q _ => ∃ (a : Addr) (nm : Bool) (xs : List Int), vs = [.ref a, .bl nm] ∧ SqT K H a (xs.map V.int) ∧ xs.length ≤ 1000 ∧ (∀ x ∈ xs, 1 ≤ x.natAbs ∧ x.natAbs ≤ 60) ∧
  ∀ (q : Addr) (d : PyData) (H' : Hp), Evl.Ex H H' → Heard xs d → Dp K H' (.ref q) d → Q (.ref q) H'
theorem ok_heard {f fM C CG : Addr} {fd fdM : FuncData} (F : Fun K "_law_heard" "_law_heard" s_law_heard f fd) (T : Bl mg) (U : ExcF K mg "Unfit" C) (UC : ExcC K C)
    (gG : mg "GameError" = some (.ref CG)) (gV : mg "ValueError" = none) (kit : PySem.W.kitOne K (.ref C) (.ref CG) = some true) (kitV : PySem.W.kitOne K (.ref C) (.type "ValueError") = some true) (exm : PySem.W.exmOne K (.ref C) (.ref C) = some true)
    (Gclause_of : FnOk P w K mg base (L2.CX P w) 1 fM fdM ["literals"] (spClauseOf K C)) (Cclause_of : Callee K mg "clause_of" fM fdM ["literals"])
    (kw : ∀ (s : Shared) (ws : List Value), ws.length = 1 → BindsTo s fdM ⟨[], (["literals"] : List Str).zip ws⟩ ((["literals"] : List Str).zip ws.reverse)) :
    FnOk P w K mg base CX0 2 f fd ["literals", "is_named"] (spHeard K) := by
  refine F.ok sc_law_heard (fun vs H Q E h => ?_) (fun cdv A outer s H vs Q E hr h => ?_)
  · obtain ⟨a, nm, xs, rfl, _⟩ := h
    rfl
  · obtain ⟨a, nm, xs, rfl, ha, hl, hb, q⟩ := h
    refine ⟨_, pss_one (ps_try_as (i := 2) (c := .ref C) (Wout := fun _ _ _ _ => False) rfl rfl sc_law_heard.nd rfl rfl ⟨rfl, by decide, .inl U.g⟩ takes0
      (fun W pn xe tk _ => pss_one (ps_ret (pe_lst (pa_cons pe_str (pa_cons (pe_ifExp (pt_val (pv 1))
        (pe_kw (ks := ["literals"]) (g := List.reverse) (gV := List.reverse) Gclause_of (hr.mono (by decide)) (by rfl) Cclause_of.m Cclause_of.k kw (fun _ r => rel_rev r) (fun σ => passAt tk σ) (pk_cons (pv 0) pk_nil))
        (pe_callS Gclause_of (hr.mono (by decide)) (by rfl) Cclause_of.m Cclause_of.k Cclause_of.b (fun σ => passAt tk σ) (pa_cons (pv 0) pa_nil))) pa_nil)))))
      (fun a oe cls d pn hz hf => pss_guard (p := cls = .ref C ∧ d = none) fun hp => by
        obtain ⟨rfl, rfl⟩ := hp
        exact pss_one (ps_ret (pe_lst (pa_cons pe_str (pa_cons (pe_and (pe_callB (call_isE UC hz hf) (by rfl) T.isinstance (by decide +kernel) (pa_cons (pv 2) (pa_cons (pe_glob (v := .ref CG) (by rfl) gG rfl) pa_nil)))
          (pe_one (pe_callB (call_isE UC hz hf) (by rfl) T.isinstance (by decide +kernel) (pa_cons (pv 2) (pa_cons (pe_bltn (v := .ty "ValueError") (by rfl) gV boot_ValueError rfl) pa_nil))))) pa_nil)))))), ?_⟩
    refine rd_start (σ' := [some (.ref a), some (.bl nm), none]) rfl ?_
    have fine : ∀ (u : Addr) (r : List Int) (H1 : Hp), ¬ Contr xs → Evl.Ex H H1 → ClauseOf xs r → SqT K H1 u (r.map V.int) → ∀ p, H1 p = none → Q (.ref p) (upd H1 p (.lst [.str "told", .ref u])) :=
      fun u r H1 c e1 hj hr p hp => q p (.list [.str "told", .tuple (dI r)]) _ (e1.trans (Evl.Ex.new hp)) (.inl ⟨c, r, hj, rfl⟩)
        (.lst (SqL.of upd_same) (.cons (.str _) (.cons (dp_T (Evl.ex_t (Evl.Ex.new hp) hr)) .nil)))
    walk_at "rds"
    refine rd_iteb (fun c => ?_) (fun c => ?_)
    · walk_at "rds"
      refine ⟨rfl, a, xs, rfl, ha, hl, hb, fun c1 u r H1 e1 hj hr => ?_, fun c1 H1 e1 => ?_⟩
      · walk_at "rds"
        exact ⟨(by show 2 ≤ sizeLine; decide), fun p hp => fine u r H1 c1 e1 hj hr p hp⟩
      · refine ⟨true, exm, fun _ u hu => ⟨⟨rfl, rfl⟩, ?_⟩, fun h => (nomatch h)⟩
        refine rd_start (σ' := [some (.ref a), some (.bl nm), some (.ref u)]) rfl ?_
        walk_at "rds"
        refine ⟨.ref CG, .ref CG, true, rfl, fun v h => h, kit, ?_⟩
        walk_at "rds"
        refine ⟨.ty "ValueError", .type "ValueError", true, rfl, fun v h => h, kitV, ?_⟩
        walk_at "rds"
        refine ⟨(by show 2 ≤ sizeLine; decide), fun p hp => ?_⟩
        exact q p (.list [.str "unfit", .bool true]) _ (e1.trans (Evl.Ex.new hp)) (.inr ⟨c1, rfl⟩) (.lst (SqL.of upd_same) (.cons (.str _) (.cons (.bl _) .nil)))
    · walk_at "rds"
      refine ⟨a, xs, rfl, ha, hl, hb, fun c1 u r H1 e1 hj hr => ?_, fun c1 H1 e1 => ?_⟩
      · walk_at "rds"
        exact ⟨(by show 2 ≤ sizeLine; decide), fun p hp => fine u r H1 c1 e1 hj hr p hp⟩
      · refine ⟨true, exm, fun _ u hu => ⟨⟨rfl, rfl⟩, ?_⟩, fun h => (nomatch h)⟩
        refine rd_start (σ' := [some (.ref a), some (.bl nm), some (.ref u)]) rfl ?_
        walk_at "rds"
        refine ⟨.ref CG, .ref CG, true, rfl, fun v h => h, kit, ?_⟩
        walk_at "rds"
        refine ⟨.ty "ValueError", .type "ValueError", true, rfl, fun v h => h, kitV, ?_⟩
        walk_at "rds"
        refine ⟨(by show 2 ≤ sizeLine; decide), fun p hp => ?_⟩
        exact q p (.list [.str "unfit", .bool true]) _ (e1.trans (Evl.Ex.new hp)) (.inr ⟨c1, rfl⟩) (.lst (SqL.of upd_same) (.cons (.str _) (.cons (.bl _) .nil)))
end
theorem due_step {xs fs : List Int} {i : Nat} (nc : ¬ Contr xs) (hp : fs.Pairwise fun x y => x.natAbs < y.natAbs) (hm : ∀ x, x ∈ fs ↔ x ∈ xs ∧ x.natAbs ≤ i) :
    (fs ++ [1 + (i : Int), -(1 + (i : Int))].filter fun x => decide (x ∈ xs)).Pairwise (fun x y => x.natAbs < y.natAbs) ∧ ∀ x, x ∈ fs ++ ([1 + (i : Int), -(1 + (i : Int))].filter fun x => decide (x ∈ xs)) ↔ x ∈ xs ∧ x.natAbs ≤ i + 1 := by
  have two : ∀ x, x ∈ ([1 + (i : Int), -(1 + (i : Int))].filter fun x => decide (x ∈ xs)) ↔ x ∈ xs ∧ x.natAbs = i + 1 := fun x => by
    rw [List.mem_filter, List.mem_cons, List.mem_singleton, decide_eq_true_eq]
    constructor
    · rintro ⟨h1 | h1, h2⟩ <;> exact ⟨h2, by omega⟩
    · rintro ⟨h1, h2⟩
      exact ⟨by omega, h1⟩
  refine ⟨List.pairwise_append.mpr ⟨hp, ?_, fun a ha b hb => ?_⟩, fun x => ?_⟩
  · by_cases h1 : 1 + (i : Int) ∈ xs
    · have h2 : -(1 + (i : Int)) ∉ xs := fun h => nc ⟨_, h1, h⟩
      simp [h1, h2]
    · by_cases h2 : -(1 + (i : Int)) ∈ xs <;> simp [h1, h2]
  · have h1 := (hm a).mp ha
    have h2 := (two b).mp hb
    omega
  · rw [List.mem_append, hm, two]
    constructor
    · rintro (h | h) <;> exact ⟨h.1, by omega⟩
    · rintro ⟨h1, h2⟩
      by_cases e : x.natAbs ≤ i
      · exact .inl ⟨h1, e⟩
      · exact .inr ⟨h1, by omega⟩
section
variable {P : Program} {w : World} {K : PySem.W.Frag} {mg : Str → Option Value} {base : Heap}
def spDue (K : PySem.W.Frag) : Sp := fun vs H Q _ => ∃ (a : Addr) (xs : List Int), vs = [.ref a] ∧ SqT K H a (xs.map V.int) ∧ xs.length ≤ 1000 ∧ (∀ x ∈ xs, 1 ≤ x.natAbs ∧ x.natAbs ≤ 60) ∧
  ∀ (q : Addr) (d : PyData) (H' : Hp), Evl.Ex H H' → Heard xs d → Dp K H' (.ref q) d → Q (.ref q) H'
theorem ok_due {f : Addr} {fd : FuncData} (F : Fun K "_law_due" "_law_due" s_law_due f fd) (T : Bl mg) : FnOk P w K mg base CX0 1 f fd ["literals"] (spDue K) := by
  refine F.ok sc_law_due (fun vs H Q E h => ?_) (fun cdv A outer s H vs Q E hr h => ?_)
  · obtain ⟨a, xs, rfl, _⟩ := h
    rfl
  · obtain ⟨a, xs, rfl, ha, hl, hb', q⟩ := h
    refine ⟨_, (pss_cons (ps_if (pt_cmpR (ok_neD (K := K) rfl hr.units) (pe_lc (own := [("x", 3)]) (g := gName 3) rfl sc_law_due.nd (ik_tupI (K := K) rfl (pv 0)) (blkOk_by (own := [("x", 3)]) (N := ["literals", "found", "letter", "x"]) (sc := defScope s_law_due) (by decide +kernel)) (fun _ _ _ _ _ => (pg_name (i := 3) sc_law_due.nd rfl (Or.inl rfl))) (fun _ _ _ _ _ => (pts_one (pt_cmpR (ok_in (K := K) rfl) (pe_un un_neg (pv 3)) (pv 0) (by rfl)))) (fun _ _ _ _ _ => (pv 3))) (pe_lst pa_nil) (nomark _)) (pss_one (ps_ret (pe_lst (pa_cons pe_str (pa_cons pe_bl pa_nil))))) pss_nil)
 (pss_cons (ps_set (i := 1) sc_law_due.nd rfl (Or.inl rfl) (pe_lst pa_nil))
 (pss_cons (ps_for PassesOwn.never rfl (pi_range2 (by rfl) T.range (pa_cons pe_int (pa_cons pe_int pa_nil))) (pg_name (i := 2) sc_law_due.nd rfl (Or.inl rfl)) (pss_one (ps_set (i := 1) sc_law_due.nd rfl (Or.inl rfl) (pe_op op_cat (pv 1) (pe_lc (own := [("x", 3)]) (g := gName 3) rfl sc_law_due.nd (ik_tupI (K := K) rfl (pe_tup (pa_cons (pv 2) (pa_cons (pe_un un_neg (pv 2)) pa_nil)))) (blkOk_by (own := [("x", 3)]) (N := ["literals", "found", "letter", "x"]) (sc := defScope s_law_due) (by decide +kernel)) (fun _ _ _ _ _ => (pg_name (i := 3) sc_law_due.nd rfl (Or.inl rfl))) (fun _ _ _ _ _ => (pts_one (pt_cmpR (ok_in (K := K) rfl) (pv 3) (pv 0) (by rfl)))) (fun _ _ _ _ _ => (pv 3)))))))
 (pss_one (ps_ret (pe_lst (pa_cons pe_str (pa_cons (pe_callTy (c_tuple (K := K) rfl) (by rfl) T.tuple (by decide +kernel) (pa_cons (pv 1) pa_nil)) pa_nil)))))))), ?_⟩
    refine rd_start (σ' := [some (.ref a), none, none, none]) rfl ?_
    walk_at "rds"
    refine rd_ref ha ?_
    refine lc_fmT (fun x => decide (-x ∈ xs)) V.int (σx := fun x => [some (.ref a), none, none, some x]) ha (by omega) (fun _ => rfl) (fun _ => rfl) (fun x hx H' N S e kN kS => ?_) fun D H1 e1 eD hD => ?_
    · walk_at "rds"
      refine rd_inT (Evl.ex_t e ha) ?_
      walk_at "rds"
      refine rd_ite (fun c => ?_) (fun c => ?_)
      · walk_at "rds"
        exact kN (decide_eq_true c) _ (Evl.Ex.refl _)
      · exact kS (decide_eq_false c) _ (Evl.Ex.refl _)
    walk_at "rds"
    refine ⟨Nat.zero_le _, fun p hp => ?_⟩
    have e2 := e1.trans (Evl.Ex.new (o := .lst []) hp)
    refine rd_full (SqL.of ((upd_ne (ne_of_none hD hp)).trans hD)) (dp_ints _) (shaped_ints _) (SqL.of upd_same) ?_
    walk_at "rds"
    refine rd_iteb (fun c => ?_) (fun c => ?_)
    · have hc : Contr xs := by
        cases hf : xs.filter fun x => decide (-x ∈ xs) with
        | nil => rw [hf] at c; cases c
        | cons x r =>
          have hx : x ∈ xs.filter fun x => decide (-x ∈ xs) := by rw [hf]; exact List.mem_cons_self
          have h := List.mem_filter.mp hx
          exact ⟨x, h.1, of_decide_eq_true h.2⟩
      walk_at "rds"
      refine ⟨(by show 2 ≤ sizeLine; decide), fun b hb => ?_⟩
      exact q b (.list [.str "unfit", .bool true]) _ (e2.trans (Evl.Ex.new hb)) (.inr ⟨hc, rfl⟩) (.lst (SqL.of upd_same) (.cons (.str _) (.cons (.bl _) .nil)))
    have nc : ¬ Contr xs := fun ⟨x, h1, h2⟩ => by
      have hx : x ∈ xs.filter fun x => decide (-x ∈ xs) := List.mem_filter.mpr ⟨h1, decide_eq_true h2⟩
      cases hf : xs.filter fun x => decide (-x ∈ xs) with
      | nil => rw [hf] at hx; cases hx
      | cons x r => rw [hf] at c; cases c
    walk_at "rds"
    refine ⟨Nat.zero_le _, fun b hb => ?_⟩
    have e3 := e2.trans (Evl.Ex.new (o := .lst []) hb)
    walk_at "rds"
    refine ⟨1, 61, rfl, ⟨by decide, by decide, by decide, by decide⟩, ?_⟩
    refine fr_range (lo := 1) (n := 60) (fun i σ' H' => ∃ (x2 : Option V) (b : Addr) (fs : List Int), σ' = [some (.ref a), some (.ref b), x2, none] ∧ Evl.Ex H H' ∧ H' b = some (.lst (fs.map V.int)) ∧ fs.length ≤ 2 * i ∧
        fs.Pairwise (fun x y => x.natAbs < y.natAbs) ∧ ∀ x, x ∈ fs ↔ x ∈ xs ∧ x.natAbs ≤ i)
      ⟨_, b, [], rfl, e3, upd_same, Nat.le_refl _, List.Pairwise.nil, fun x => ⟨nofun, fun ⟨h1, h2⟩ => by have := (hb' x h1).1; omega⟩⟩ (fun i σ' H' hi hP => ?_) fun σ' H' hP => ?_
    · obtain ⟨x2, b, fs, rfl, e, ef, hlen, hpw, hm⟩ := hP
      refine rd_start (σ' := [some (.ref a), some (.ref b), some (.int (1 + (i : Int))), none]) rfl ?_
      walk_at "rds"
      refine ⟨(by show 2 ≤ sizeLine; decide), fun u hu => ?_⟩
      have e4 := e.trans (Evl.Ex.new (o := .tup [V.int (1 + (i : Int)), V.int (-(1 + (i : Int)))]) hu)
      walk_at "rds"
      refine rd_ref (SqT.of upd_same) ?_
      refine lc_fmT (ns := [1 + (i : Int), -(1 + (i : Int))]) (fun x => decide (x ∈ xs)) V.int (σx := fun x => [some (.ref a), some (.ref b), some (.int (1 + (i : Int))), some x]) (SqT.of upd_same) (by show 2 ≤ 40000; decide) (fun _ => rfl) (fun _ => rfl) (fun x hx H' N S e kN kS => ?_) fun D5 H5 e5 eD5 hD5 => ?_
      · walk_at "rds"
        refine rd_inT (Evl.ex_t (e4.trans e) ha) ?_
        walk_at "rds"
        refine rd_ite (fun c => ?_) (fun c => ?_)
        · walk_at "rds"
          exact kN (decide_eq_true c) _ (Evl.Ex.refl _)
        · exact kS (decide_eq_false c) _ (Evl.Ex.refl _)
      have ef5 := e5 _ _ ((upd_ne (ne_of_none ef hu)).trans ef)
      have h2l : (([1 + (i : Int), -(1 + (i : Int))].filter fun x => decide (x ∈ xs))).length ≤ 2 := List.length_filter_le _ _
      refine rd_catL ef5 hD5 (by rw [List.length_map, List.length_map, sizeLine_eq]; omega) fun r hr => ?_
      walk_at "rds"
      obtain ⟨d1, d2⟩ := due_step nc hpw hm
      refine ⟨_, r, fs ++ ([1 + (i : Int), -(1 + (i : Int))].filter fun x => decide (x ∈ xs)), rfl, (e4.trans e5).trans (Evl.Ex.new hr), by rw [upd_same, List.map_append], ?_, d1, d2⟩
      rw [List.length_append]
      omega
    · obtain ⟨x2, b, fs, rfl, e, ef, hlen, hpw, hm⟩ := hP
      walk_at "rds"
      refine rd_tupL (SqL.of ef) fun o ho => ?_
      have e4 := e.trans (Evl.Ex.new (o := .tup (fs.map V.int)) ho)
      walk_at "rds"
      refine ⟨(by show 2 ≤ sizeLine; decide), fun u hu => ?_⟩
      have e5 := Evl.Ex.new (o := .lst [V.str "told", V.ref o]) hu
      exact q u (.list [.str "told", .tuple (dI fs)]) _ (e4.trans e5) (.inl ⟨nc, fs, ⟨hpw, fun x => (hm x).trans ⟨fun h => h.1, fun h => ⟨h, (hb' x h).2⟩⟩⟩, rfl⟩)
        (.lst (SqL.of upd_same) (.cons (.str _) (.cons (dp_T (Evl.ex_t e5 (SqT.of upd_same))) .nil)))
end
end KA
set_option Elab.async false
set_option linter.all false
set_option maxRecDepth 100000
set_option maxHeartbeats 400000
namespace KA
open PySem PySem.Spec PyProof.Rows L2 Ea
abbrev s_law_literals : Stmt := topS 19
theorem sc_law_literals : FnScope ["deck", "top", "letter", "signs", "found", "turn"] ["deck"] (defScope s_law_literals) :=
  ⟨rfl, rfl, rfl, by decide +kernel, rfl, by decide +kernel, by decide +kernel⟩
local macro_rules | `(tactic| walk_at "rd") => `(tactic| first
  | (with_reducible refine rd_seq ?_) | (with_reducible refine rd_asg ?_) | (with_reducible refine rd_if ?_) | (with_reducible refine rd_ret ?_) | (with_reducible refine rd_next ?_)
  | (with_reducible refine rd_drop ?_) | ((with_reducible refine rd_name (σ' := ?ss) ?hs ?_); (case hs => (dsimp only [List.set]; exact rfl)))
  | ((with_reducible refine rd_var (v := ?vv) ?hv ?_); (case hv => exact rfl)) | (with_reducible refine rd_c ?_) | (with_reducible refine rd_op ?_) | (with_reducible refine rd_un ?_)
  | (with_reducible refine rd_I0 ?_) | (with_reducible refine rd_U ?_) | (with_reducible refine rd_test ?_) | (with_reducible refine rd_B ?_) | (with_reducible refine rd_k ?_)
  | (with_reducible refine rd_not ?_) | (with_reducible refine rd_and ?_) | (with_reducible refine rd_or ?_) | (with_reducible refine rd_ifE ?_)
  | (with_reducible refine rd_par ?_) | ((with_reducible refine rd_par2 (σ' := ?ss) ?hs ?_); (case hs => (dsimp only [List.set]; exact rfl)))
  | (with_reducible refine rd_gsub ?_) | (with_reducible refine rd_andV ?_) | (with_reducible refine rd_orV ?_) | (with_reducible refine rd_notV ?_)
  | (with_reducible refine rd_lc ?_) | (with_reducible refine rd_iTup ?_) | (with_reducible refine rd_iList ?_) | (with_reducible refine rd_iRng1 ?_) | (with_reducible refine rd_iRng2 ?_) | (with_reducible refine rd_iEnumT ?_) | (with_reducible refine rd_iEnum ?_) | (with_reducible refine rd_iZipM ?_)
  | (with_reducible refine rd_yes ?_) | (with_reducible refine rd_true ?_) | (with_reducible refine rd_false ?_) | (with_reducible refine rd_m1 ?_) | (with_reducible refine rd_isS ?_)
  | ((with_reducible refine rd_eq ?hs ?_); (case hs => exact rfl)) | ((with_reducible refine rd_ne ?hs ?_); (case hs => exact rfl))
  | (with_reducible refine rd_listRg ?_) | (with_reducible refine rd_rg2 ?_) | (with_reducible refine rd_rgk ?_)
  | (with_reducible refine rd_dnew ?_) | (with_reducible refine rd_ddel ?_) | (with_reducible refine rd_kw ?_) | (with_reducible refine rd_callS ?_) | (with_reducible refine rd_dc ?_) | (with_reducible refine rd_for ?_) | (with_reducible refine rd_tru ?_) | (with_reducible refine rd_truI ?_)
  | (with_reducible refine rd_nil ?_) | (with_reducible refine rd_cons ?_) | (with_reducible refine rd_call ?_) | (with_reducible refine rd_cb ?_)
  | (with_reducible refine rd_tup ?_) | (with_reducible refine rd_lst ?_) | (with_reducible refine rd_dget ?_) | (with_reducible refine rd_dput ?_) | (with_reducible refine rd_dget2 ?_) | (with_reducible refine rd_sl ?_)
  | (with_reducible refine rd_nopart ?_) | (with_reducible refine rd_part ?_) | (with_reducible refine rd_parti ?_) | (with_reducible refine rd_bm ?_) | (with_reducible refine rd_bm0 ?_)
  | (with_reducible refine rd_int ?_) | (with_reducible refine rd_intb ?_) | (with_reducible refine rd_abs ?_) | (with_reducible refine rd_min2 ?_) | (with_reducible refine rd_max2 ?_))
local macro_rules | `(tactic| walk_at "rds") => `(tactic| repeat (walk_at "rd"))
local macro_rules | `(tactic| walk_at "rq") => `(tactic| first
  | (with_reducible refine rd_seq ?_) | (with_reducible refine rd_asg ?_) | (with_reducible refine rd_ret ?_) | (with_reducible refine rd_next ?_)
  | (with_reducible refine rd_drop ?_) | ((with_reducible refine rd_name (σ' := ?ss) ?hs ?_); (case hs => (dsimp only [List.set]; exact rfl)))
  | ((with_reducible refine rd_var (v := ?vv) ?hv ?_); (case hv => exact rfl)) | (with_reducible refine rd_c ?_) | (with_reducible refine rd_op ?_) | (with_reducible refine rd_un ?_)
  | (with_reducible refine rd_I0 ?_) | (with_reducible refine rd_U ?_) | (with_reducible refine rd_test ?_) | (with_reducible refine rd_B ?_) | (with_reducible refine rd_k ?_)
  | (with_reducible refine rd_not ?_) | (with_reducible refine rd_and ?_) | (with_reducible refine rd_or ?_) | (with_reducible refine rd_ifE ?_)
  | (with_reducible refine rd_par ?_) | ((with_reducible refine rd_par2 (σ' := ?ss) ?hs ?_); (case hs => (dsimp only [List.set]; exact rfl)))
  | (with_reducible refine rd_gsub ?_) | (with_reducible refine rd_andV ?_) | (with_reducible refine rd_orV ?_) | (with_reducible refine rd_notV ?_)
  | (with_reducible refine rd_lc ?_) | (with_reducible refine rd_iTup ?_) | (with_reducible refine rd_iList ?_) | (with_reducible refine rd_iRng1 ?_) | (with_reducible refine rd_iRng2 ?_) | (with_reducible refine rd_iEnumT ?_) | (with_reducible refine rd_iEnum ?_) | (with_reducible refine rd_iZipM ?_)
  | (with_reducible refine rd_yes ?_) | (with_reducible refine rd_true ?_) | (with_reducible refine rd_false ?_) | (with_reducible refine rd_m1 ?_) | (with_reducible refine rd_isS ?_)
  | ((with_reducible refine rd_eq ?hs ?_); (case hs => exact rfl)) | ((with_reducible refine rd_ne ?hs ?_); (case hs => exact rfl))
  | (with_reducible refine rd_listRg ?_) | (with_reducible refine rd_rg2 ?_) | (with_reducible refine rd_rgk ?_)
  | (with_reducible refine rd_dnew ?_) | (with_reducible refine rd_ddel ?_) | (with_reducible refine rd_kw ?_) | (with_reducible refine rd_callS ?_) | (with_reducible refine rd_dc ?_) | (with_reducible refine rd_for ?_) | (with_reducible refine rd_tru ?_) | (with_reducible refine rd_truI ?_)
  | (with_reducible refine rd_nil ?_) | (with_reducible refine rd_cons ?_) | (with_reducible refine rd_call ?_) | (with_reducible refine rd_cb ?_)
  | (with_reducible refine rd_tup ?_) | (with_reducible refine rd_lst ?_) | (with_reducible refine rd_dget ?_) | (with_reducible refine rd_dput ?_) | (with_reducible refine rd_dget2 ?_) | (with_reducible refine rd_sl ?_)
  | (with_reducible refine rd_nopart ?_) | (with_reducible refine rd_part ?_) | (with_reducible refine rd_parti ?_) | (with_reducible refine rd_bm ?_) | (with_reducible refine rd_bm0 ?_)
  | (with_reducible refine rd_int ?_) | (with_reducible refine rd_intb ?_) | (with_reducible refine rd_abs ?_) | (with_reducible refine rd_min2 ?_) | (with_reducible refine rd_max2 ?_))
local macro_rules | `(tactic| walk_at "rqs") => `(tactic| repeat (walk_at "rq"))

section
variable {P : Program} {w : World} {K : PySem.W.Frag} {mg : Str → Option Value} {base : Heap}
def spLits (K : PySem.W.Frag) : Sp := fun vs H Q _ => ∃ (d l : Addr), vs = [.ref d] ∧ DeckL d l H ∧
  ∀ (a : Addr) (xs : List Int) (H' : Hp), Gl d l H H' → SqT K H' a (xs.map V.int) → xs.length ≤ 20 → (∀ x ∈ xs, 1 ≤ x.natAbs ∧ x.natAbs ≤ 60) → Q (.ref a) H'
theorem ok_literals {f fD fP fM : Addr} {fd fdD fdP fdM : FuncData} (F : Fun K "_law_literals" "_law_literals" s_law_literals f fd) (T : Bl mg)
    (G_law_draw : FnOk P w K mg base CX0 1 fD fdD ["deck", "many"] spDraw) (C_law_draw : Callee K mg "_law_draw" fD fdD ["deck", "many"])
    (G_law_pick : FnOk P w K mg base CX0 2 fP fdP ["deck", "items"] spPick) (C_law_pick : Callee K mg "_law_pick" fP fdP ["deck", "items"])
    (G_law_mixed : FnOk P w K mg base CX0 2 fM fdM ["deck", "items"] (spMixed K)) (C_law_mixed : Callee K mg "_law_mixed" fM fdM ["deck", "items"]) :
    FnOk P w K mg base CX0 3 f fd ["deck"] (spLits K) := by
  refine F.ok sc_law_literals (fun vs H Q E h => ?_) (fun cdv A outer s H vs Q E hr h => ?_)
  · obtain ⟨d, l, rfl, _⟩ := h
    rfl
  · obtain ⟨d, l, rfl, hD, q⟩ := h
    refine ⟨_, (pss_cons (ps_set (i := 1) sc_law_literals.nd rfl (Or.inl rfl) (pe_call G_law_pick (hr.mono (by decide)) (by rfl) C_law_pick.m C_law_pick.k C_law_pick.b .nil pass0 (pa_cons (pv 0) (pa_cons (pe_lst (pa_cons pe_int (pa_cons pe_int (pa_cons pe_int pa_nil)))) pa_nil))))
 (pss_cons (ps_par (i := 3) (j := 4) rfl sc_law_literals.nd rfl rfl (by decide) rfl rfl (pa_cons (pe_lc (own := [("letter", 2)]) (g := gName 2) rfl sc_law_literals.nd (pi_range1 (by rfl) T.range (pa_cons (pv 1) pa_nil)) (blkOk_by (own := [("letter", 2)]) (N := ["deck", "top", "letter", "signs", "found", "turn"]) (sc := defScope s_law_literals) (by decide +kernel)) (fun _ _ _ _ _ => (pg_name (i := 2) sc_law_literals.nd rfl (Or.inl rfl))) (fun _ _ _ _ _ => pts_nil) (fun _ _ _ _ _ => (pe_call G_law_draw (hr.mono (by decide)) (by rfl) C_law_draw.m C_law_draw.k C_law_draw.b .nil pass0 (pa_cons (pv 0) (pa_cons pe_int pa_nil))))) (pa_cons (pe_lst pa_nil) pa_nil)) (by rfl))
 (pss_cons (ps_for PassesOwn.never rfl (pi_range1 (by rfl) T.range (pa_cons (pe_call G_law_draw (hr.mono (by decide)) (by rfl) C_law_draw.m C_law_draw.k C_law_draw.b .nil pass0 (pa_cons (pv 0) (pa_cons pe_int pa_nil))) pa_nil)) (pg_name (i := 5) sc_law_literals.nd rfl (Or.inl rfl)) (pss_cons (ps_set (i := 2) sc_law_literals.nd rfl (Or.inl rfl) (pe_op op_add pe_int (pe_call G_law_draw (hr.mono (by decide)) (by rfl) C_law_draw.m C_law_draw.k C_law_draw.b .nil pass0 (pa_cons (pv 0) (pa_cons (pv 1) pa_nil)))))
 (pss_one (ps_expr (pe_bm PySem.F.plainAttrs_list PySem.F.slot_list_append PySem.F.type_list_append mt_append (pv 4) (pa_cons (pe_ifExp (pt_cmpR op_eq (pe_ix (ik_list (K := K) rfl) (pv 3) (pe_op op_sub (pv 2) pe_int) (fun _ _ => rfl)) pe_int (nomark _)) (pv 2) (pe_un un_neg (pv 2))) pa_nil))))))
 (pss_cons (ps_if (PW.pt (pw_and (pt_cmpR op_eq (pe_call G_law_draw (hr.mono (by decide)) (by rfl) C_law_draw.m C_law_draw.k C_law_draw.b .nil pass0 (pa_cons (pv 0) (pa_cons pe_int pa_nil))) pe_int (nomark _)) (pw_and1 (pt_cmpR (ok_neD (K := K) rfl hr.units) (pv 4) (pe_lst pa_nil) (nomark _))))) (pss_one (ps_expr (pe_bm PySem.F.plainAttrs_list PySem.F.slot_list_append PySem.F.type_list_append mt_append (pv 4) (pa_cons (pe_un un_neg (pe_call G_law_pick (hr.mono (by decide)) (by rfl) C_law_pick.m C_law_pick.k C_law_pick.b .nil pass0 (pa_cons (pv 0) (pa_cons (pv 4) pa_nil)))) pa_nil)))) pss_nil)
 (pss_one (ps_ret (pe_callTy (c_tuple (K := K) rfl) (by rfl) T.tuple (by decide +kernel) (pa_cons (pe_call G_law_mixed (hr.mono (by decide)) (by rfl) C_law_mixed.m C_law_mixed.k C_law_mixed.b .nil pass0 (pa_cons (pv 0) (pa_cons (pv 4) pa_nil))) pa_nil)))))))), ?_⟩
    refine rd_start (σ' := [some (.ref d), none, none, none, none, none]) rfl ?_
    walk_at "rqs"
    refine ⟨(by show 3 ≤ sizeLine; decide), fun b hb => ?_⟩
    have g1 := Gl.new (o := .lst [V.int 3, V.int 8, V.int 60]) hD hb
    refine ⟨d, l, b, _, rfl, g1.dk, upd_same, (hD.off hb).1, (hD.off hb).2, (by show 1 ≤ 3; decide), (by show 3 ≤ 1000; decide), fun y H2 g2 hy => ?_⟩
    obtain ⟨n, rfl, n0, n1⟩ : ∃ k : Int, y = .int k ∧ 1 ≤ k ∧ k ≤ 60 := by
      simp only [List.mem_cons, List.not_mem_nil, or_false] at hy
      rcases hy with rfl | rfl | rfl <;> exact ⟨_, rfl, by decide, by decide⟩
    have g12 := g1.trans g2
    walk_at "rqs"
    refine rd_rng1 (by omega) (by omega) ?_
    refine lc_glR (fun i acc => ∃ ys : List Int, acc = ys.map V.int ∧ ys.length = i) (σx := fun x => [some (.ref d), some (.int n), some x, none, none, none])
      g12.dk (by omega) (fun _ => rfl) (fun _ => rfl) ⟨[], rfl, rfl⟩ (fun i hi acc H3 N S g3 hP kN kS => ?_) fun D acc H3 g3 eD hacc hP => ?_
    · obtain ⟨ys, rfl, rfl⟩ := hP
      walk_at "rqs"
      refine ⟨d, l, 2, rfl, g3.dk, by decide, by decide, fun r H4 g4 r0 r1 => ?_⟩
      exact kN _ _ g4 ⟨ys ++ [r], by rw [List.map_append] <;> rfl, by rw [List.length_append] <;> rfl⟩
    obtain ⟨sg, rfl, esg⟩ := hP
    have g13 := g12.trans g3
    have eD0 : H D = none := g12.back hD eD
    obtain ⟨Dd, Dl⟩ := hD.off eD0
    walk_at "rqs"
    refine ⟨Nat.zero_le _, fun p hp => ?_⟩
    have hp0 : H p = none := g13.back hD hp
    obtain ⟨pd, pl⟩ := hD.off hp0
    have g4 := Gl.new (o := .lst []) g13.dk hp
    have xD := g4.kp D _ Dd Dl hacc
    walk_at "rqs"
    refine ⟨d, l, 9, rfl, g4.dk, by decide, by decide, fun r H5 g5 r0 r1 => ?_⟩
    walk_at "rqs"
    refine rd_rng1 (by omega) (by omega) ?_
    have nDp : D ≠ p := ne_of_none hacc hp
    refine fr_range (lo := 0) (n := r.toNat) (fun i σ' H' => ∃ (x2 x5 : Option V) (fs : List Int), σ' = [some (.ref d), some (.int n), x2, some (.ref D), some (.ref p), x5] ∧ Gl d l H H' ∧ H' D = some (.lst (sg.map V.int)) ∧
        H' p = some (.lst (fs.map V.int)) ∧ fs.length ≤ i ∧ ∀ x ∈ fs, 1 ≤ x.natAbs ∧ x.natAbs ≤ 60)
      ⟨_, _, [], rfl, (g13.trans g4).trans g5, g5.kp D _ Dd Dl xD, g5.kp p _ pd pl upd_same, Nat.le_refl _, nofun⟩ (fun i σ' H' hi hP => ?_) fun σ' H' hP => ?_
    · obtain ⟨x2, x5, fs, rfl, g, xd, xp, hlen, hbd⟩ := hP
      refine rd_start (σ' := [some (.ref d), some (.int n), x2, some (.ref D), some (.ref p), some (.int (0 + (i : Int)))]) rfl ?_
      walk_at "rqs"
      refine ⟨d, l, n, rfl, g.dk, by omega, by omega, fun u H6 g6 u0 u1 => ?_⟩
      have xd6 := g6.kp D _ Dd Dl xd
      have xp6 := g6.kp p _ pd pl xp
      walk_at "rqs"
      refine rd_tyL xp6 ?_
      walk_at "rqs"
      have hu : u.toNat < sg.length := by omega
      refine rd_ixL (x := .int sg[u.toNat]) (SqL.of xd6) (at_nat (k := u.toNat) (by omega) (by rw [List.getElem?_map, List.getElem?_eq_getElem hu] <;> rfl)) ?_
      have fin : ∀ x : Int, x.natAbs = (1 + u).natAbs → rAppend (.ref p) [.int x] H6 fun _ H1 => ∃ (x2 x5 : Option V) (fs : List Int), [some (V.ref d), some (V.int n), some (V.int (1 + u)), some (V.ref D), some (V.ref p), some (V.int (0 + (i : Int)))] = [some (.ref d), some (.int n), x2, some (.ref D), some (.ref p), x5] ∧ Gl d l H H1 ∧ H1 D = some (.lst (sg.map V.int)) ∧
        H1 p = some (.lst (fs.map V.int)) ∧ fs.length ≤ i + 1 ∧ ∀ x ∈ fs, 1 ≤ x.natAbs ∧ x.natAbs ≤ 60 := fun x hx => by
        refine rd_append xp6 (by rw [List.length_map]; omega) ⟨_, _, fs ++ [x], rfl, Gl.mut (g.trans g6) hD hp0, (upd_ne nDp).trans xd6, by rw [upd_same, List.map_append] <;> rfl, by rw [List.length_append, List.length_singleton]; omega, fun z hz => ?_⟩
        rcases List.mem_append.mp hz with h | h
        · exact hbd z h
        · rw [List.mem_singleton.mp h]
          omega
      walk_at "rqs"
      refine rd_ite (fun c => ?_) (fun c => ?_)
      · walk_at "rqs"
        exact fin _ rfl
      · walk_at "rqs"
        exact fin _ (by omega)
    · obtain ⟨x2, x5, fs, rfl, g, xd, xp, hlen, hbd⟩ := hP
      walk_at "rqs"
      refine rd_ifI (fun σ' H6 => ∃ fs : List Int, σ' = [some (.ref d), some (.int n), x2, some (.ref D), some (.ref p), x5] ∧ Gl d l H H6 ∧ H6 p = some (.lst (fs.map V.int)) ∧ fs.length ≤ 10 ∧ ∀ x ∈ fs, 1 ≤ x.natAbs ∧ x.natAbs ≤ 60) (fun N kN => ?_) fun σ' H6 hI => ?_
      · walk_at "rds"
        refine ⟨d, l, 4, rfl, g.dk, by decide, by decide, fun u H6 g6 u0 u1 => ?_⟩
        have xp6 := g6.kp p _ pd pl xp
        walk_at "rds"
        refine rd_ite (fun c => ?_) (fun c => ?_)
        · walk_at "rds"
          refine ⟨Nat.zero_le _, fun b2 hb2 => ?_⟩
          have g7 := Gl.new (o := .lst []) g6.dk hb2
          have xp7 := g7.kp p _ pd pl xp6
          refine rd_full (SqL.of xp7) (dp_ints fs) (shaped_ints fs) (SqL.of upd_same) ?_
          walk_at "rds"
          refine rd_iteb (fun c2 => ?_) (fun c2 => ?_)
          · have hpos : 1 ≤ fs.length := by
              cases fs with
              | nil => cases c2
              | cons x t => exact Nat.succ_le_succ (Nat.zero_le _)
            walk_at "rds"
            refine rd_tyL xp7 ?_
            walk_at "rds"
            refine ⟨d, l, p, _, rfl, g7.dk, xp7, pd, pl, by rw [List.length_map]; exact hpos, by rw [List.length_map]; omega, fun y H8 g8 hy => ?_⟩
            obtain ⟨k, hk, rfl⟩ := List.mem_map.mp hy
            have xp8 := g8.kp p _ pd pl xp7
            walk_at "rds"
            refine rd_append xp8 (by rw [List.length_map]; omega) ?_
            walk_at "rds"
            refine kN _ _ ⟨fs ++ [-k], rfl, Gl.mut (((g.trans g6).trans g7).trans g8) hD hp0, by rw [upd_same, List.map_append] <;> rfl, by rw [List.length_append, List.length_singleton]; omega, fun z hz => ?_⟩
            rcases List.mem_append.mp hz with h | h
            · exact hbd z h
            · rw [List.mem_singleton.mp h]
              have := hbd k hk
              omega
          · walk_at "rds"
            exact kN _ _ ⟨fs, rfl, (g.trans g6).trans g7, xp7, by omega, hbd⟩
        · walk_at "rds"
          exact kN _ _ ⟨fs, rfl, g.trans g6, xp6, by omega, hbd⟩
      obtain ⟨fs2, rfl, g6, xp6, hl6, hb6⟩ := hI
      walk_at "rds"
      refine ⟨d, l, p, fs2, rfl, g6.dk, .inl (SqL.of xp6), by omega, fun o ms H7 g7 ho hms pm => ?_⟩
      refine rd_tupL (SqL.of hms) fun z hz => ?_
      exact q z ms _ ((g6.trans g7).trans (Gl.new g7.dk hz)) (SqT.of upd_same) (by rw [pm.length_eq]; omega) fun x hx => hb6 x (pm.mem_iff.mp hx)
end
end KA
set_option Elab.async false
set_option linter.all false
set_option maxRecDepth 100000
set_option maxHeartbeats 400000
namespace KA
open PySem PySem.Spec PyProof.Rows L2 Ea
abbrev s_law_is_less : Stmt := topS 20
theorem sc_law_is_less : FnScope ["deck", "owners", "rows", "kept", "way", "places", "due", "before", "told", "row", "place", "own"] ["deck", "owners", "rows"] (defScope s_law_is_less) :=
  ⟨rfl, rfl, rfl, by decide +kernel, rfl, by decide +kernel, by decide +kernel⟩
local macro_rules | `(tactic| walk_at "rd") => `(tactic| first
  | (with_reducible refine rd_seq ?_) | (with_reducible refine rd_asg ?_) | (with_reducible refine rd_if ?_) | (with_reducible refine rd_ret ?_) | (with_reducible refine rd_next ?_)
  | (with_reducible refine rd_drop ?_) | ((with_reducible refine rd_name (σ' := ?ss) ?hs ?_); (case hs => (dsimp only [List.set]; exact rfl)))
  | ((with_reducible refine rd_var (v := ?vv) ?hv ?_); (case hv => exact rfl)) | (with_reducible refine rd_c ?_) | (with_reducible refine rd_op ?_) | (with_reducible refine rd_un ?_)
  | (with_reducible refine rd_I0 ?_) | (with_reducible refine rd_U ?_) | (with_reducible refine rd_test ?_) | (with_reducible refine rd_B ?_) | (with_reducible refine rd_k ?_)
  | (with_reducible refine rd_not ?_) | (with_reducible refine rd_and ?_) | (with_reducible refine rd_or ?_) | (with_reducible refine rd_ifE ?_)
  | (with_reducible refine rd_par ?_) | ((with_reducible refine rd_par2 (σ' := ?ss) ?hs ?_); (case hs => (dsimp only [List.set]; exact rfl)))
  | (with_reducible refine rd_gsub ?_) | (with_reducible refine rd_andV ?_) | (with_reducible refine rd_orV ?_) | (with_reducible refine rd_notV ?_)
  | (with_reducible refine rd_lc ?_) | (with_reducible refine rd_iTup ?_) | (with_reducible refine rd_iList ?_) | (with_reducible refine rd_iRng1 ?_) | (with_reducible refine rd_iRng2 ?_) | (with_reducible refine rd_iEnumT ?_) | (with_reducible refine rd_iEnum ?_) | (with_reducible refine rd_iZipM ?_)
  | (with_reducible refine rd_yes ?_) | (with_reducible refine rd_true ?_) | (with_reducible refine rd_false ?_) | (with_reducible refine rd_m1 ?_) | (with_reducible refine rd_isS ?_)
  | ((with_reducible refine rd_eq ?hs ?_); (case hs => exact rfl)) | ((with_reducible refine rd_ne ?hs ?_); (case hs => exact rfl))
  | (with_reducible refine rd_listRg ?_) | (with_reducible refine rd_rg2 ?_) | (with_reducible refine rd_rgk ?_)
  | (with_reducible refine rd_dnew ?_) | (with_reducible refine rd_ddel ?_) | (with_reducible refine rd_kw ?_) | (with_reducible refine rd_callS ?_) | (with_reducible refine rd_dc ?_) | (with_reducible refine rd_for ?_) | (with_reducible refine rd_tru ?_) | (with_reducible refine rd_truI ?_)
  | (with_reducible refine rd_nil ?_) | (with_reducible refine rd_cons ?_) | (with_reducible refine rd_call ?_) | (with_reducible refine rd_cb ?_)
  | (with_reducible refine rd_tup ?_) | (with_reducible refine rd_lst ?_) | (with_reducible refine rd_dget ?_) | (with_reducible refine rd_dput ?_) | (with_reducible refine rd_dget2 ?_) | (with_reducible refine rd_sl ?_)
  | (with_reducible refine rd_nopart ?_) | (with_reducible refine rd_part ?_) | (with_reducible refine rd_parti ?_) | (with_reducible refine rd_bm ?_) | (with_reducible refine rd_bm0 ?_)
  | (with_reducible refine rd_int ?_) | (with_reducible refine rd_intb ?_) | (with_reducible refine rd_abs ?_) | (with_reducible refine rd_min2 ?_) | (with_reducible refine rd_max2 ?_))
local macro_rules | `(tactic| walk_at "rds") => `(tactic| repeat (walk_at "rd"))
local macro_rules | `(tactic| walk_at "rq") => `(tactic| first
  | (with_reducible refine rd_seq ?_) | (with_reducible refine rd_asg ?_) | (with_reducible refine rd_ret ?_) | (with_reducible refine rd_next ?_)
  | (with_reducible refine rd_drop ?_) | ((with_reducible refine rd_name (σ' := ?ss) ?hs ?_); (case hs => (dsimp only [List.set]; exact rfl)))
  | ((with_reducible refine rd_var (v := ?vv) ?hv ?_); (case hv => exact rfl)) | (with_reducible refine rd_c ?_) | (with_reducible refine rd_op ?_) | (with_reducible refine rd_un ?_)
  | (with_reducible refine rd_I0 ?_) | (with_reducible refine rd_U ?_) | (with_reducible refine rd_test ?_) | (with_reducible refine rd_B ?_) | (with_reducible refine rd_k ?_)
  | (with_reducible refine rd_not ?_) | (with_reducible refine rd_and ?_) | (with_reducible refine rd_or ?_) | (with_reducible refine rd_ifE ?_)
  | (with_reducible refine rd_par ?_) | ((with_reducible refine rd_par2 (σ' := ?ss) ?hs ?_); (case hs => (dsimp only [List.set]; exact rfl)))
  | (with_reducible refine rd_gsub ?_) | (with_reducible refine rd_andV ?_) | (with_reducible refine rd_orV ?_) | (with_reducible refine rd_notV ?_)
  | (with_reducible refine rd_lc ?_) | (with_reducible refine rd_iTup ?_) | (with_reducible refine rd_iList ?_) | (with_reducible refine rd_iRng1 ?_) | (with_reducible refine rd_iRng2 ?_) | (with_reducible refine rd_iEnumT ?_) | (with_reducible refine rd_iEnum ?_) | (with_reducible refine rd_iZipM ?_)
  | (with_reducible refine rd_yes ?_) | (with_reducible refine rd_true ?_) | (with_reducible refine rd_false ?_) | (with_reducible refine rd_m1 ?_) | (with_reducible refine rd_isS ?_)
  | ((with_reducible refine rd_eq ?hs ?_); (case hs => exact rfl)) | ((with_reducible refine rd_ne ?hs ?_); (case hs => exact rfl))
  | (with_reducible refine rd_listRg ?_) | (with_reducible refine rd_rg2 ?_) | (with_reducible refine rd_rgk ?_)
  | (with_reducible refine rd_dnew ?_) | (with_reducible refine rd_ddel ?_) | (with_reducible refine rd_kw ?_) | (with_reducible refine rd_callS ?_) | (with_reducible refine rd_dc ?_) | (with_reducible refine rd_for ?_) | (with_reducible refine rd_tru ?_) | (with_reducible refine rd_truI ?_)
  | (with_reducible refine rd_nil ?_) | (with_reducible refine rd_cons ?_) | (with_reducible refine rd_call ?_) | (with_reducible refine rd_cb ?_)
  | (with_reducible refine rd_tup ?_) | (with_reducible refine rd_lst ?_) | (with_reducible refine rd_dget ?_) | (with_reducible refine rd_dput ?_) | (with_reducible refine rd_dget2 ?_) | (with_reducible refine rd_sl ?_)
  | (with_reducible refine rd_nopart ?_) | (with_reducible refine rd_part ?_) | (with_reducible refine rd_parti ?_) | (with_reducible refine rd_bm ?_) | (with_reducible refine rd_bm0 ?_)
  | (with_reducible refine rd_int ?_) | (with_reducible refine rd_intb ?_) | (with_reducible refine rd_abs ?_) | (with_reducible refine rd_min2 ?_) | (with_reducible refine rd_max2 ?_))
local macro_rules | `(tactic| walk_at "rqs") => `(tactic| repeat (walk_at "rq"))

/-- calls by names, the parameters' order turned -/
def KwRev (fd : FuncData) (ps : List Str) : Prop := ∀ (s : Shared) (ws : List Value), ws.length = ps.length → BindsTo s fd ⟨[], ps.reverse.zip ws⟩ (ps.zip ws.reverse)
theorem nice_own {n : Nat} {z : Str} (h : OwnS n z) (hn : n ≤ 60) : Nice 60 0 (.str z) := by
  refine Nice.str (Nat.le_trans (Nat.le_of_eq h.1) hn) (fun c hc => ?_) ?_
  · rcases h.2 c hc with rfl | rfl <;> decide
  · show z.cps.all (fun c => decide (c < 0x110000)) = true
    rw [Array.all_eq_true_iff_forall_mem]
    intro c hc
    have hc' : c ∈ z.cps.toList := Array.mem_toList_iff.mpr hc
    rcases h.2 c hc' with rfl | rfl <;> decide
section
variable {K : PySem.W.Frag} {H : Hp}
theorem getD_at {α : Type} {xs : List α} {i : Nat} {d : α} (h : i < xs.length) : xs[i]? = some (xs.getD i d) := by
  rw [List.getD_eq_getElem?_getD, List.getElem?_eq_getElem h] <;> rfl
theorem rows_pick {xs : List V} {rs : List (List Int)} (h : DpAll K H xs (rs.map dR)) : ∀ (is : List Nat), (∀ i ∈ is, i < xs.length) → DpAll K H (is.map fun i => xs.getD i .non) ((is.map fun i => rs.getD i []).map dR)
  | [], _ => .nil
  | i :: t, hi => by
    have h1 : i < xs.length := hi i List.mem_cons_self
    obtain ⟨d, hd, hp⟩ := dpAll_get h (getD_at (d := V.non) h1)
    rw [List.getElem?_map] at hd
    obtain ⟨r, hr, rfl⟩ := Option.map_eq_some_iff.mp hd
    have e : rs.getD i [] = r := by rw [List.getD_eq_getElem?_getD, hr] <;> rfl
    rw [List.map_cons, List.map_cons, List.map_cons, e]
    exact .cons hp (rows_pick h t fun j hj => hi j (List.mem_cons_of_mem _ hj))
theorem pick_all (xs : List V) : (List.range xs.length).map (fun i => xs.getD i .non) = xs := by
  refine List.ext_getElem (by rw [List.length_map, List.length_range]) fun i h1 h2 => ?_
  rw [List.getElem_map, List.getElem_range, List.getD_eq_getElem?_getD, List.getElem?_eq_getElem h2] <;> rfl
theorem kept_nil (xs : List V) : kept [] xs = xs := by
  unfold kept
  rw [show ((List.range xs.length).filter fun i : Nat => !decide ((i : Int) ∈ ([] : List Int))) = List.range xs.length from List.filter_eq_self.mpr fun a _ => by simp]
  exact pick_all xs
theorem kept_eq {xs : List V} {ks : List Int} (hl : ks.length = xs.length) (h0 : ∀ k ∈ ks, (0 : Int) ≤ k) :
    ((List.range xs.length).filter fun i => decide (0 < ks.getD i 0)).map (fun i => xs.getD i .non) = kept (((List.range ks.length).filter fun i => decide (ks.getD i 0 = 0)).map fun i : Nat => (i : Int)) xs := by
  unfold kept
  congr 1
  refine List.filter_congr fun i hi => ?_
  have hi' : i < ks.length := by
    rw [hl]
    exact List.mem_range.mp hi
  have hk := h0 _ (List.mem_of_getElem? (getD_at (d := (0 : Int)) hi'))
  have hm : ((i : Int) ∈ ((List.range ks.length).filter fun i => decide (ks.getD i 0 = 0)).map fun i : Nat => (i : Int)) ↔ ks.getD i 0 = 0 := by
    rw [List.mem_map]
    constructor
    · rintro ⟨j, hj, e⟩
      have ej : j = i := by omega
      rw [← ej]
      exact of_decide_eq_true (List.mem_filter.mp hj).2
    · intro e
      exact ⟨i, List.mem_filter.mpr ⟨List.mem_range.mpr hi', decide_eq_true e⟩, rfl⟩
  rw [decide_eq_decide.mpr hm]
  by_cases c : ks.getD i 0 = 0
  · rw [decide_eq_true c, decide_eq_false (by omega)] <;> rfl
  · have h1 : 0 < ks.getD i 0 := by omega
    rw [decide_eq_true h1, decide_eq_false c] <;> rfl
end
section
variable {P : Program} {w : World} {K : PySem.W.Frag} {mg : Str → Option Value} {base : Heap}
def spIsLess (K : PySem.W.Frag) : Sp := fun vs H Q _ => ∃ (d l c : Addr) (n : Nat) (z : Str) (xs : List V) (rs : List (List Int)), vs = [.ref d, .str z, .ref c] ∧ DeckL d l H ∧ OwnS n z ∧ n ≤ 60 ∧ SqT K H c xs ∧ DpAll K H xs (rs.map dR) ∧ (∀ r ∈ rs, Row n r) ∧ rs.length ≤ 300 ∧
  ∀ H', Gl d l H H' → Q (.bl true) H'
theorem ok_is_less {f fD fL : Addr} {fd fdD fdL : FuncData} (F : Fun K "_law_is_less" "_law_is_less" s_law_is_less f fd) (T : Bl mg)
    (G_law_draw : FnOk P w K mg base CX0 1 fD fdD ["deck", "many"] spDraw) (C_law_draw : Callee K mg "_law_draw" fD fdD ["deck", "many"])
    (Gless : FnOk P w K mg base CX0 1 fL fdL ["sentence", "places"] (spLess K)) (Cless : Callee K mg "less" fL fdL ["sentence", "places"]) (Kless : KwRev fdL ["sentence", "places"]) :
    FnG P w K mg base 2 f fd ["deck", "owners", "rows"] (spIsLess K) := by
  refine okG F sc_law_is_less (fun vs H Q E h => ?_) (fun cdv A outer s H vs Q E hr hg h => ?_)
  · obtain ⟨d, l, c, n, z, xs, rs, rfl, _⟩ := h
    rfl
  · obtain ⟨d, l, c, n, z, xs, rs, rfl, hD, hz, hn, hc, hrs, hrow, hlen, q⟩ := h
    have lxs : xs.length = rs.length := by rw [dpAll_len hrs, List.length_map]
    refine ⟨_, (pss_cons (ps_setLc (i := 3) (own := [("row", 9)]) (g := gName 9) rfl sc_law_is_less.nd rfl rfl (sw_true rfl rfl rfl (by decide +kernel)) (ik_tupI (K := K) rfl (pv 2)) (blkOk_by (own := [("row", 9)]) (N := ["deck", "owners", "rows", "kept", "way", "places", "due", "before", "told", "row", "place", "own"]) (sc := defScope s_law_is_less) (by decide +kernel)) (fun _ _ _ _ _ => (pg_name (i := 9) sc_law_is_less.nd rfl (Or.inl rfl))) (fun _ _ _ _ _ => pts_nil) (fun _ _ _ _ _ => (pe_call G_law_draw (hr.mono (by decide)) (by rfl) C_law_draw.m C_law_draw.k C_law_draw.b .nil pass0 (pa_cons (pv 0) (pa_cons pe_int pa_nil)))))
 (pss_cons (ps_set (i := 4) sc_law_is_less.nd rfl (Or.inl rfl) (pe_call G_law_draw (hr.mono (by decide)) (by rfl) C_law_draw.m C_law_draw.k C_law_draw.b .nil pass0 (pa_cons (pv 0) (pa_cons pe_int pa_nil))))
 (pss_cons (ps_set (i := 3) sc_law_is_less.nd rfl (Or.inl rfl) (pe_ifExp (pt_cmpR op_lt (pv 4) pe_int (nomark _)) (pe_op op_rep (pe_lst (pa_cons (pe_callTy c_int (by rfl) T.int (by decide +kernel) (pa_cons (pe_cmpR op_eq (pv 4) pe_int (nomark _)) pa_nil)) pa_nil)) (pe_callB (c_len (K := K) rfl) (by rfl) T.len (by decide +kernel) (pa_cons (pv 2) pa_nil))) (pv 3)))
 (pss_cons (ps_set (i := 5) sc_law_is_less.nd rfl (Or.inl rfl) (pe_callTy (c_tuple (K := K) rfl) (by rfl) T.tuple (by decide +kernel) (pa_cons (pe_lc (own := [("place", 10), ("own", 11)]) (g := gTup K 2 (gCons (gName 10) (gCons (gName 11) gNil))) rfl sc_law_is_less.nd (pi_enumL (K := K) rfl (by rfl) T.enumerate (pa_cons (pv 3) pa_nil)) (blkOk_by (own := [("place", 10), ("own", 11)]) (N := ["deck", "owners", "rows", "kept", "way", "places", "due", "before", "told", "row", "place", "own"]) (sc := defScope s_law_is_less) (by decide +kernel)) (fun _ _ _ _ _ => (pgk_tup (K := K) rfl rfl (pgs_cons (pg_name (i := 10) sc_law_is_less.nd rfl (Or.inl rfl)) (pgs_cons (pg_name (i := 11) sc_law_is_less.nd rfl (Or.inl rfl)) pgs_nil)))) (fun _ _ _ _ _ => (pts_one (pt_cmpR op_eq (pv 11) pe_int (nomark _)))) (fun _ _ _ _ _ => (pv 10))) pa_nil)))
 (pss_cons (ps_set (i := 6) sc_law_is_less.nd rfl (Or.inl rfl) (pe_tup (pa_cons (pv 1) (pa_cons (pe_callTy (c_tuple (K := K) rfl) (by rfl) T.tuple (by decide +kernel) (pa_cons (pe_lc (own := [("row", 9), ("own", 11)]) (g := gTup K 2 (gCons (gName 9) (gCons (gName 11) gNil))) rfl sc_law_is_less.nd (pi_zipM (K := K) rfl (by rfl) T.zip (pa_cons (pv 2) (pa_cons (pv 3) pa_nil))) (blkOk_by (own := [("row", 9), ("own", 11)]) (N := ["deck", "owners", "rows", "kept", "way", "places", "due", "before", "told", "row", "place", "own"]) (sc := defScope s_law_is_less) (by decide +kernel)) (fun _ _ _ _ _ => (pgk_tup (K := K) rfl rfl (pgs_cons (pg_name (i := 9) sc_law_is_less.nd rfl (Or.inl rfl)) (pgs_cons (pg_name (i := 11) sc_law_is_less.nd rfl (Or.inl rfl)) pgs_nil)))) (fun _ _ _ _ _ => (pts_one (pt_cmpR op_gt (pv 11) pe_int (nomark _)))) (fun _ _ _ _ _ => (pv 9))) pa_nil)) pa_nil))))
 (pss_cons (ps_set (i := 7) sc_law_is_less.nd rfl (Or.inl rfl) (pe_callB (c_repr (K := K) rfl hg hr.units) (by rfl) T.repr (by decide +kernel) (pa_cons (pe_lst (pa_cons (pv 1) (pa_cons (pv 2) (pa_cons (pv 5) pa_nil)))) pa_nil)))
 (pss_cons (ps_set (i := 8) sc_law_is_less.nd rfl (Or.inl rfl) (pe_lst (pa_cons (pe_call Gless (hr.mono (by decide)) (by rfl) Cless.m Cless.k Cless.b .nil pass0 (pa_cons (pe_tup (pa_cons (pv 1) (pa_cons (pv 2) pa_nil))) (pa_cons (pv 5) pa_nil))) (pa_cons (pe_kw (E := fun _ => E0) (ks := ["places", "sentence"]) (g := List.reverse) (gV := List.reverse) Gless (hr.mono (by decide)) (by rfl) Cless.m Cless.k Kless (fun _ r => rel_rev r) (fun _ => passAt0) (pk_cons (pv 5) (pk_cons (pe_tup (pa_cons (pv 1) (pa_cons (pv 2) pa_nil))) pk_nil))) pa_nil))))
 (pss_cons (ps_expr (pe_bm PySem.F.plainAttrs_list PySem.F.slot_list_append PySem.F.type_list_append mt_append (pv 8) (pa_cons (pe_call Gless (hr.mono (by decide)) (by rfl) Cless.m Cless.k Cless.b .nil pass0 (pa_cons (pe_ix (ik_list (K := K) rfl) (pv 8) pe_int (fun _ _ => rfl)) (pa_cons (pe_tup pa_nil) pa_nil))) pa_nil)))
 (pss_one (ps_ret (pe_and (pe_cmpR op_eq (pe_callB (c_repr (K := K) rfl hg hr.units) (by rfl) T.repr (by decide +kernel) (pa_cons (pv 8) pa_nil)) (pe_callB (c_repr (K := K) rfl hg hr.units) (by rfl) T.repr (by decide +kernel) (pa_cons (pe_op op_rep (pe_lst (pa_cons (pv 6) pa_nil)) pe_int) pa_nil)) (nomark _)) (pe_one (pe_cmpR op_eq (pe_callB (c_repr (K := K) rfl hg hr.units) (by rfl) T.repr (by decide +kernel) (pa_cons (pe_lst (pa_cons (pv 1) (pa_cons (pv 2) (pa_cons (pv 5) pa_nil)))) pa_nil)) (pv 7) (nomark _)))))))))))))), ?_⟩
    refine rd_start (σ' := [some (.ref d), some (.str z), some (.ref c), none, none, none, none, none, none, none, none, none]) rfl ?_
    walk_at "rds"
    refine rd_ref hc ?_
    refine lc_glT (xs := xs) (fun i acc => ∃ ys : List Int, acc = ys.map V.int ∧ ys.length = i ∧ ∀ y ∈ ys, 0 ≤ y) (σx := fun x => [some (.ref d), some (.str z), some (.ref c), none, none, none, none, none, none, some x, none, none])
      hD hc (by omega) (fun _ => rfl) (fun _ => rfl) ⟨[], rfl, rfl, nofun⟩ (fun i x hx acc H3 N S g3 hP kN kS => ?_) fun D acc H3 g3 eD hacc hP => ?_
    · obtain ⟨ys, rfl, rfl, hy⟩ := hP
      walk_at "rds"
      refine ⟨d, l, 3, rfl, g3.dk, by decide, by decide, fun r H4 g4 r0 r1 => ?_⟩
      refine kN _ _ g4 ⟨ys ++ [r], by rw [List.map_append] <;> rfl, by rw [List.length_append] <;> rfl, fun y h => ?_⟩
      rcases List.mem_append.mp h with h | h
      · exact hy y h
      · rw [List.mem_singleton.mp h]
        exact r0
    obtain ⟨k0, rfl, ek0, hk0⟩ := hP
    have eD0 := eD
    obtain ⟨Dd, Dl⟩ := hD.off eD0
    walk_at "rds"
    refine ⟨d, l, 5, rfl, g3.dk, by decide, by decide, fun way H4 g4 w0 w1 => ?_⟩
    have c4 := g4.tup g3.dk (g3.tup hD hc)
    have d4 := Gl.rows g4 g3.dk (Gl.rows g3 hD hrs)
    have x4 := g4.kp D _ Dd Dl hacc
    have g14 := g3.trans g4
    walk_at "rds"
    refine rd_ite2 (fun v H' => ∃ (q : Addr) (ks : List Int), v = .ref q ∧ Evl.Ex H4 H' ∧ H' q = some (.lst (ks.map V.int)) ∧ ks.length = xs.length ∧ ∀ k ∈ ks, (0 : Int) ≤ k) (fun R kR => ?_) (fun R kR => ?_) fun v H5 hv => ?_
    · walk_at "rds"
      refine ⟨(by show 1 ≤ sizeLine; decide), fun u hu => ?_⟩
      have e5 := Evl.Ex.new (o := .lst [V.int (if decide (V.int way = V.int 0) = true then 1 else 0)]) hu
      walk_at "rds"
      refine rd_lenT (Evl.ex_t e5 c4) ?_
      refine rd_mulL upd_same (by omega) (by rw [List.length_singleton, sizeLine_eq]; omega) fun u2 hu2 => ?_
      refine kR _ _ ⟨u2, List.replicate xs.length (if decide (V.int way = V.int 0) = true then 1 else 0), rfl, e5.trans (Evl.Ex.new hu2), ?_, List.length_replicate, fun k hk => ?_⟩
      · rw [upd_same, List.map_replicate, Int.toNat_natCast]
        congr 2
        generalize xs.length = m
        induction m with
        | zero => rfl
        | succ m ih => rw [List.replicate_succ, List.flatten_cons, ih, List.replicate_succ] <;> rfl
      · rw [List.eq_of_mem_replicate hk]
        split <;> decide
    · walk_at "rds"
      exact kR _ _ ⟨D, k0, rfl, Evl.Ex.refl _, x4, ek0, hk0⟩
    obtain ⟨kq, ks, rfl, e5, x5, lks, hks⟩ := hv
    have c5 := Evl.ex_t e5 c4
    have d5 := dpAll_ex e5 _ _ d4
    have hD5 := (Gl.ex e5 g4.dk)
    have g15 := g14.trans hD5
    clear hc hrs c4 d4 x4 hacc g14 e5 hk0
    walk_at "rds"
    refine ⟨kq, ks.map V.int, rfl, SqL.of x5, ?_⟩
    have gi : ∀ i, i < ks.length → (ks.map V.int).getD i .non = .int (ks.getD i 0) := fun i hi => by
      rw [List.getD_eq_getElem?_getD, List.getElem?_map, getD_at (d := (0 : Int)) hi] <;> rfl
    refine lc_enumL rfl (SqL.of x5) (by rw [List.length_map]; omega) (σx := fun x y => [some (.ref d), some (.str z), some (.ref c), some (.ref kq), some (.int way), none, none, none, none, none, some x, some y]) (fun _ _ => rfl) (fun _ _ => rfl)
      (fun i : Nat => decide (ks.getD i 0 = 0)) (fun i => .int (i : Nat)) (fun i hi H' N S e kN kS => ?_) fun D6 H6 e6 eD6 hD6 => ?_
    · rw [List.length_map] at hi
      dsimp only
      rw [gi i hi]
      walk_at "rds"
      refine rd_ite (fun c => ?_) (fun c => ?_)
      · walk_at "rds"
        exact kN (decide_eq_true (V.int.inj c)) _ (Evl.Ex.refl _)
      · exact kS (decide_eq_false fun q => c (by rw [q])) _ (Evl.Ex.refl _)
    obtain ⟨ps, eps⟩ : ∃ ps : List Int, ps = ((List.range ks.length).filter fun i => decide (ks.getD i 0 = 0)).map fun i : Nat => (i : Int) := ⟨_, rfl⟩
    have hps : ∀ k ∈ ps, k.natAbs < 10 ^ 12 := fun k hk => by
      rw [eps] at hk
      obtain ⟨j, hj, rfl⟩ := List.mem_map.mp hk
      have h1 := List.mem_range.mp (List.mem_filter.mp hj).1
      have : (10 : Nat) ^ 12 = 1000000000000 := by decide
      omega
    have lps : ps.length ≤ 300 := by
      rw [eps, List.length_map]
      have := List.length_filter_le (fun i => decide (ks.getD i 0 = 0)) (List.range ks.length)
      rw [List.length_range] at this
      omega
    have mps : ((List.range (ks.map V.int).length).filter fun i : Nat => decide (ks.getD i 0 = 0)).map (fun i => V.int (i : Nat)) = ps.map V.int := by
      rw [eps, List.length_map, List.map_map] <;> rfl
    rw [mps] at hD6
    walk_at "rds"
    refine rd_tupL (SqL.of hD6) fun o1 ho1 => ?_
    have e7 := e6.trans (Evl.Ex.new (o := .tup (ps.map V.int)) ho1)
    have c7 := Evl.ex_t e7 c5
    walk_at "rds"
    refine ⟨c, kq, xs, ks.map V.int, rfl, c7, Evl.ex_l e7 (SqL.of x5), ?_⟩
    refine lc_zipM rfl c7 (Evl.ex_l e7 (SqL.of x5)) (by rw [List.length_map]; exact lks.symm) (by omega) (σx := fun x y => [some (.ref d), some (.str z), some (.ref c), some (.ref kq), some (.int way), some (.ref o1), none, none, none, some x, none, some y]) (fun _ _ => rfl) (fun _ _ => rfl)
      (fun i : Nat => decide (0 < ks.getD i 0)) (fun i => xs.getD i .non) (fun i hi H' N S e kN kS => ?_) fun D8 H8 e8 eD8 hD8 => ?_
    · dsimp only
      rw [gi i (by omega)]
      walk_at "rds"
      refine rd_ite (fun c => ?_) (fun c => ?_)
      · walk_at "rds"
        exact kN (decide_eq_true c) _ (Evl.Ex.refl _)
      · exact kS (decide_eq_false c) _ (Evl.Ex.refl _)
    rw [kept_eq lks hks, ← eps] at hD8
    walk_at "rds"
    refine rd_tupL (SqL.of hD8) fun o2 ho2 => ?_
    have e9 := e8.trans (Evl.Ex.new (o := .tup (kept ps xs)) ho2)
    walk_at "rds"
    refine ⟨(by show 2 ≤ sizeLine; decide), fun a2 ha2 => ?_⟩
    have ea := Evl.Ex.new (o := .tup [V.str z, V.ref o2]) ha2
    have o1X := Evl.ex_t (e9.trans ea) (SqT.of (K := K) (H := upd H6 o1 (.tup (ps.map V.int))) upd_same)
    have cX := Evl.ex_t (e9.trans ea) c7
    have dX := dpAll_ex ((e7.trans e9).trans ea) _ _ d5
    have o2X := Evl.ex_t ea (SqT.of (K := K) (H := upd H8 o2 (.tup (kept ps xs))) upd_same)
    have aX := SqT.of (K := K) (H := upd (upd H8 o2 (.tup (kept ps xs))) a2 (.tup [V.str z, V.ref o2])) upd_same
    have gX := g15.trans (Gl.ex ((e7.trans e9).trans ea) hD5.dk)
    clear e7 e9 ea c7 d5 c5 x5 g15 hD5 mps eps gi hD6 hD8 e8 e6
    generalize upd (upd H8 o2 (.tup (kept ps xs))) a2 (.tup [V.str z, V.ref o2]) = HX at o1X cX dX o2X aX gX ⊢
    have nz := nice_own hz hn
    have nR : Nice 18300 2 (.tuple (rs.map dR)) := (Nice.tup (nice_rows hn hrow)).mono (by omega) (by decide)
    have nP : Nice 300 1 (.tuple (dI ps)) := (Nice.tup (NiceAll.ints hps)).mono lps (by decide)
    have nB : Nice 20000 3 (.list [.str z, .tuple (rs.map dR), .tuple (dI ps)]) := (Nice.lst ((nz.mono (Nat.le_refl 60) (by decide : 0 ≤ 2)).cons3 nR (nP.mono (Nat.le_refl 300) (by decide : 1 ≤ 2)))).mono (by decide) (by decide)
    walk_at "rds"
    refine ⟨(by show 3 ≤ sizeLine; decide), fun b1 hb1 => ?_⟩
    have y1 := Evl.Ex.new (o := .lst [V.str z, V.ref c, V.ref o1]) hb1
    walk_at "rds"
    refine rd_repr (.lst (SqL.of upd_same) (.cons (.str _) (.cons (.tup (Evl.ex_t y1 cX) (dpAll_ex y1 _ _ dX)) (.cons (dp_T (Evl.ex_t y1 o1X)) .nil)))) nB (by decide) (by decide) rfl ?_
    walk_at "rds"
    refine ⟨(by show 2 ≤ sizeLine; decide), fun t1 ht1 => ?_⟩
    have y2 := y1.trans (Evl.Ex.new (o := .tup [V.str z, V.ref c]) ht1)
    walk_at "rds"
    refine ⟨t1, c, o1, z, xs, ps, rfl, SqT.of upd_same, Evl.ex_t y2 cX, Evl.ex_t y2 o1X, by omega, fun q1 r1 F1 f1 u1 v1 => ?_⟩
    have y3 := y2.trans f1
    walk_at "rds"
    refine ⟨(by show 2 ≤ sizeLine; decide), fun t2 ht2 => ?_⟩
    have y4 := Evl.Ex.new (o := .tup [V.str z, V.ref c]) ht2
    have y34 := y3.trans y4
    walk_at "rds"
    refine ⟨rfl, t2, c, o1, z, xs, ps, rfl, SqT.of upd_same, Evl.ex_t y34 cX, Evl.ex_t y34 o1X, by omega, fun q2 r2 F2 f2 u2 v2 => ?_⟩
    have y5 := y34.trans f2
    have u1' := Evl.ex_t (y4.trans f2) u1
    have v1' := Evl.ex_t (y4.trans f2) v1
    walk_at "rds"
    refine ⟨(by show 2 ≤ sizeLine; decide), fun tl htl => ?_⟩
    have y6 := Evl.Ex.new (o := .lst [V.ref q1, V.ref q2]) htl
    have lk : (kept ps xs).length ≤ 1000 := by
      unfold kept
      rw [List.length_map]
      have := List.length_filter_le (fun i : Nat => !decide ((i : Int) ∈ ps)) (List.range xs.length)
      rw [List.length_range] at this
      omega
    walk_at "rds"
    refine rd_tyL upd_same ?_
    walk_at "rds"
    refine rd_ixL (x := .ref q1) (SqL.of upd_same) rfl ?_
    walk_at "rds"
    refine ⟨(by show 0 ≤ sizeLine; exact Nat.zero_le _), fun p0 hp0 => ?_⟩
    have y7 := Evl.Ex.new (o := .tup []) hp0
    walk_at "rds"
    refine ⟨q1, r1, p0, z, kept ps xs, [], rfl, Evl.ex_t (y6.trans y7) u1', Evl.ex_t (y6.trans y7) v1', SqT.of upd_same, lk, fun q3 r3 F3 f3 u3 v3 => ?_⟩
    rw [kept_nil] at v3
    have y67 := (y6.trans y7).trans f3
    have etl : F3 tl = some (.lst [V.ref q1, V.ref q2]) := f3 _ _ (y7 _ _ upd_same)
    walk_at "rds"
    refine rd_append etl (by show 2 < 100000; decide) ?_
    walk_at "rds"
    have y8 : Evl.Ex HX (upd F3 tl (.lst [V.ref q1, V.ref q2, V.ref q3])) := Evl.Ex.mut (y5.trans y67) (Evl.fresh_back y5 htl)
    have up : ∀ {a : Addr} {ys : List V}, SqT K F3 a ys → SqT K (upd F3 tl (.lst [V.ref q1, V.ref q2, V.ref q3])) a ys := fun s => tup_upd etl lst_not s
    obtain ⟨ss, hss, hsr, hsl⟩ : ∃ ss : List (List Int), DpAll K HX (kept ps xs) (ss.map dR) ∧ (∀ r ∈ ss, Row n r) ∧ ss.length ≤ 300 := by
      refine ⟨((List.range xs.length).filter fun i : Nat => !decide ((i : Int) ∈ ps)).map fun i => rs.getD i [], rows_pick dX _ fun i hi => List.mem_range.mp (List.mem_filter.mp hi).1, fun r hr => ?_, ?_⟩
      · obtain ⟨i, hi, rfl⟩ := List.mem_map.mp hr
        have h1 := List.mem_range.mp (List.mem_filter.mp hi).1
        exact hrow _ (List.mem_of_getElem? (getD_at (d := []) (lxs ▸ h1)))
      · rw [List.length_map]
        have := List.length_filter_le (fun i : Nat => !decide ((i : Int) ∈ ps)) (List.range xs.length)
        rw [List.length_range] at this
        omega
    have nS : Nice 18300 2 (.tuple (ss.map dR)) := (Nice.tup (nice_rows hn hsr)).mono (by omega) (by decide)
    obtain ⟨d0, nT, dT⟩ : ∃ d0 : PyData, Nice 20000 3 d0 ∧ ∀ {H' : Hp} {q r : Addr}, Evl.Ex HX H' → SqT K H' q [.str z, .ref r] → SqT K H' r (kept ps xs) → Dp K H' (.ref q) d0 :=
      ⟨.tuple [.str z, .tuple (ss.map dR)], (Nice.tup ((nz.mono (Nat.le_refl 60) (by decide : 0 ≤ 2)).cons2 nS)).mono (by decide) (by decide), fun e s1 s2 => .tup s1 (.cons (.str _) (.cons (.tup s2 (dpAll_ex e _ _ hss)) .nil))⟩
    have nL : Nice 70000 4 (.list [d0, d0, d0]) := (Nice.lst (nT.cons3 nT nT)).mono (by decide) (by decide)
    refine rd_repr (.lst (xs := [V.ref q1, V.ref q2, V.ref q3]) (SqL.of upd_same) (.cons (dT y8 (up (Evl.ex_t y67 u1')) (up (Evl.ex_t y67 v1'))) (.cons (dT y8 (up (Evl.ex_t y67 u2)) (up (Evl.ex_t y67 v2))) (.cons (dT y8 (up u3) (up v3)) .nil)))) nL (by decide) (by decide) rfl ?_
    walk_at "rds"
    refine ⟨(by show 1 ≤ sizeLine; decide), fun l1 hl1 => ?_⟩
    walk_at "rds"
    refine rd_mulL upd_same (by decide) (by show 1 * 3 ≤ sizeLine; decide) fun l2 hl2 => ?_
    have y9 := (y8.trans (Evl.Ex.new (o := .lst [V.ref a2]) hl1)).trans (Evl.Ex.new (o := .lst [V.ref a2, V.ref a2, V.ref a2]) hl2)
    have da := dT y9 (Evl.ex_t y9 aX) (Evl.ex_t y9 o2X)
    walk_at "rds"
    refine rd_repr (.lst (xs := [V.ref a2, V.ref a2, V.ref a2]) (SqL.of upd_same) (.cons da (.cons da (.cons da .nil)))) nL (by decide) (by decide) rfl ?_
    walk_at "rds"
    refine rd_ite (fun _ => ?_) (fun c => absurd rfl c)
    walk_at "rds"
    refine ⟨(by show 3 ≤ sizeLine; decide), fun l3 hl3 => ?_⟩
    have yb := y9.trans (Evl.Ex.new (o := .lst [V.str z, V.ref c, V.ref o1]) hl3)
    walk_at "rds"
    refine rd_repr (.lst (xs := [V.str z, V.ref c, V.ref o1]) (SqL.of upd_same) (.cons (.str _) (.cons (.tup (Evl.ex_t yb cX) (dpAll_ex yb _ _ dX)) (.cons (dp_T (Evl.ex_t yb o1X)) .nil)))) nB (by decide) (by decide) rfl ?_
    walk_at "rds"
    rw [decide_eq_true (rfl : V.str (PyData.list [PyData.str z, PyData.tuple (rs.map dR), PyData.tuple (dI ps)]).shown = _)]
    exact q _ (gX.trans (Gl.ex yb gX.dk))
end
end KA
set_option Elab.async false
set_option linter.all false
set_option maxRecDepth 100000
set_option maxHeartbeats 400000
set_option pp.maxSteps 300
namespace KA
open PySem PySem.Spec PyProof.Rows L2 Ea
abbrev slaw : Stmt := topS 21
theorem sclaw : FnScope ["script", "deck", "turn", "literals", "due", "owners", "rows", "row", "letters", "told", "letter"] ["script"] (defScope slaw) :=
  ⟨rfl, rfl, rfl, by decide +kernel, rfl, by decide +kernel, by decide +kernel⟩
local macro_rules | `(tactic| walk_at "rd") => `(tactic| first
  | (with_reducible refine rd_seq ?_) | (with_reducible refine rd_asg ?_) | (with_reducible refine rd_if ?_) | (with_reducible refine rd_ret ?_) | (with_reducible refine rd_next ?_)
  | (with_reducible refine rd_drop ?_) | ((with_reducible refine rd_name (σ' := ?ss) ?hs ?_); (case hs => (dsimp only [List.set]; exact rfl)))
  | ((with_reducible refine rd_var (v := ?vv) ?hv ?_); (case hv => exact rfl)) | (with_reducible refine rd_c ?_) | (with_reducible refine rd_op ?_) | (with_reducible refine rd_un ?_)
  | (with_reducible refine rd_I0 ?_) | (with_reducible refine rd_U ?_) | (with_reducible refine rd_test ?_) | (with_reducible refine rd_B ?_) | (with_reducible refine rd_k ?_)
  | (with_reducible refine rd_not ?_) | (with_reducible refine rd_and ?_) | (with_reducible refine rd_or ?_) | (with_reducible refine rd_ifE ?_)
  | (with_reducible refine rd_par ?_) | ((with_reducible refine rd_par2 (σ' := ?ss) ?hs ?_); (case hs => (dsimp only [List.set]; exact rfl)))
  | (with_reducible refine rd_gsub ?_) | (with_reducible refine rd_andV ?_) | (with_reducible refine rd_orV ?_) | (with_reducible refine rd_notV ?_)
  | (with_reducible refine rd_lc ?_) | (with_reducible refine rd_iTup ?_) | (with_reducible refine rd_iList ?_) | (with_reducible refine rd_iRng1 ?_) | (with_reducible refine rd_iRng2 ?_) | (with_reducible refine rd_iEnumT ?_) | (with_reducible refine rd_iEnum ?_) | (with_reducible refine rd_iZipM ?_)
  | (with_reducible refine rd_yes ?_) | (with_reducible refine rd_true ?_) | (with_reducible refine rd_false ?_) | (with_reducible refine rd_m1 ?_) | (with_reducible refine rd_isS ?_)
  | ((with_reducible refine rd_eq ?hs ?_); (case hs => exact rfl)) | ((with_reducible refine rd_ne ?hs ?_); (case hs => exact rfl))
  | (with_reducible refine rd_listRg ?_) | (with_reducible refine rd_rg2 ?_) | (with_reducible refine rd_rgk ?_)
  | (with_reducible refine rd_dnew ?_) | (with_reducible refine rd_ddel ?_) | (with_reducible refine rd_kw ?_) | (with_reducible refine rd_callS ?_) | (with_reducible refine rd_dc ?_) | (with_reducible refine rd_for ?_) | (with_reducible refine rd_tru ?_) | (with_reducible refine rd_truI ?_)
  | (with_reducible refine rd_nil ?_) | (with_reducible refine rd_cons ?_) | (with_reducible refine rd_call ?_) | (with_reducible refine rd_cb ?_)
  | (with_reducible refine rd_tup ?_) | (with_reducible refine rd_lst ?_) | (with_reducible refine rd_dget ?_) | (with_reducible refine rd_dput ?_) | (with_reducible refine rd_dget2 ?_) | (with_reducible refine rd_sl ?_)
  | (with_reducible refine rd_nopart ?_) | (with_reducible refine rd_part ?_) | (with_reducible refine rd_parti ?_) | (with_reducible refine rd_bm ?_) | (with_reducible refine rd_bm0 ?_)
  | (with_reducible refine rd_int ?_) | (with_reducible refine rd_intb ?_) | (with_reducible refine rd_abs ?_) | (with_reducible refine rd_min2 ?_) | (with_reducible refine rd_max2 ?_))
local macro_rules | `(tactic| walk_at "rds") => `(tactic| repeat (walk_at "rd"))
local macro_rules | `(tactic| walk_at "rq") => `(tactic| first
  | (with_reducible refine rd_seq ?_) | (with_reducible refine rd_asg ?_) | (with_reducible refine rd_ret ?_) | (with_reducible refine rd_next ?_)
  | (with_reducible refine rd_drop ?_) | ((with_reducible refine rd_name (σ' := ?ss) ?hs ?_); (case hs => (dsimp only [List.set]; exact rfl)))
  | ((with_reducible refine rd_var (v := ?vv) ?hv ?_); (case hv => exact rfl)) | (with_reducible refine rd_c ?_) | (with_reducible refine rd_op ?_) | (with_reducible refine rd_un ?_)
  | (with_reducible refine rd_I0 ?_) | (with_reducible refine rd_U ?_) | (with_reducible refine rd_test ?_) | (with_reducible refine rd_B ?_) | (with_reducible refine rd_k ?_)
  | (with_reducible refine rd_not ?_) | (with_reducible refine rd_and ?_) | (with_reducible refine rd_or ?_) | (with_reducible refine rd_ifE ?_)
  | (with_reducible refine rd_par ?_) | ((with_reducible refine rd_par2 (σ' := ?ss) ?hs ?_); (case hs => (dsimp only [List.set]; exact rfl)))
  | (with_reducible refine rd_gsub ?_) | (with_reducible refine rd_andV ?_) | (with_reducible refine rd_orV ?_) | (with_reducible refine rd_notV ?_)
  | (with_reducible refine rd_lc ?_) | (with_reducible refine rd_iTup ?_) | (with_reducible refine rd_iList ?_) | (with_reducible refine rd_iRng1 ?_) | (with_reducible refine rd_iRng2 ?_) | (with_reducible refine rd_iEnumT ?_) | (with_reducible refine rd_iEnum ?_) | (with_reducible refine rd_iZipM ?_)
  | (with_reducible refine rd_yes ?_) | (with_reducible refine rd_true ?_) | (with_reducible refine rd_false ?_) | (with_reducible refine rd_m1 ?_) | (with_reducible refine rd_isS ?_)
  | ((with_reducible refine rd_eq ?hs ?_); (case hs => exact rfl)) | ((with_reducible refine rd_ne ?hs ?_); (case hs => exact rfl))
  | (with_reducible refine rd_listRg ?_) | (with_reducible refine rd_rg2 ?_) | (with_reducible refine rd_rgk ?_)
  | (with_reducible refine rd_dnew ?_) | (with_reducible refine rd_ddel ?_) | (with_reducible refine rd_kw ?_) | (with_reducible refine rd_callS ?_) | (with_reducible refine rd_dc ?_) | (with_reducible refine rd_for ?_) | (with_reducible refine rd_tru ?_) | (with_reducible refine rd_truI ?_)
  | (with_reducible refine rd_nil ?_) | (with_reducible refine rd_cons ?_) | (with_reducible refine rd_call ?_) | (with_reducible refine rd_cb ?_)
  | (with_reducible refine rd_tup ?_) | (with_reducible refine rd_lst ?_) | (with_reducible refine rd_dget ?_) | (with_reducible refine rd_dput ?_) | (with_reducible refine rd_dget2 ?_) | (with_reducible refine rd_sl ?_)
  | (with_reducible refine rd_nopart ?_) | (with_reducible refine rd_part ?_) | (with_reducible refine rd_parti ?_) | (with_reducible refine rd_bm ?_) | (with_reducible refine rd_bm0 ?_)
  | (with_reducible refine rd_int ?_) | (with_reducible refine rd_intb ?_) | (with_reducible refine rd_abs ?_) | (with_reducible refine rd_min2 ?_) | (with_reducible refine rd_max2 ?_))
local macro_rules | `(tactic| walk_at "rqs") => `(tactic| repeat (walk_at "rq"))

theorem row_inj {n : Nat} {x y : Int} : ∀ {r : List Int}, Row n r → x ∈ r → y ∈ r → x.natAbs = y.natAbs → x = y
  | [], _, hx, _, _ => by cases hx
  | a :: t, h, hx, hy, e => by
    obtain ⟨h1, h2⟩ := List.pairwise_cons.mp h.1
    rcases List.mem_cons.mp hx with q1 | q1 <;> rcases List.mem_cons.mp hy with q2 | q2
    · rw [q1, q2]
    · have := h1 y q2
      rw [← q1] at this
      omega
    · have := h1 x q1
      rw [← q2] at this
      omega
    · exact row_inj (h.sub (List.sublist_cons_self a t)) q1 q2 e
theorem heard_row {n : Nat} {r ms : List Int} {d : PyData} (hr : Row n r) (pm : ms.Perm (r ++ r.take 1)) (h : Heard ms d) : d = .list [.str "told", dR r] := by
  have hm : ∀ x, x ∈ r ↔ x ∈ ms := fun x => by
    rw [pm.mem_iff, List.mem_append]
    exact ⟨.inl, fun h => h.elim id List.mem_of_mem_take⟩
  rcases h with ⟨_, r', j, rfl⟩ | ⟨⟨x, h1, h2⟩, rfl⟩
  · have e : r' = r := j.eq ⟨hr.1, hm⟩
    rw [e] <;> rfl
  · have a1 := (hm _).mpr h1
    have a2 := (hm _).mpr h2
    have b := (hr.2 x a1).1
    have e := row_inj hr a1 a2 (Int.natAbs_neg x).symm
    omega
/-- owners' signs, as data -/
def dO (z : Str) (ls : List Int) : List PyData := ls.map fun x => .str ⟨#[sgn z x]⟩
theorem dp_signs {K : PySem.W.Frag} {H : Hp} (z : Str) : ∀ ls : List Int, DpAll K H (ls.map fun x => V.str ⟨#[sgn z x]⟩) (dO z ls)
  | [] => .nil
  | x :: t => .cons (.str _) (dp_signs z t)
theorem sgn_own {n : Nat} {z : Str} {x : Int} (hz : OwnS n z) (h1 : 1 ≤ x.natAbs) (h2 : x.natAbs ≤ n) : OwnS 1 ⟨#[sgn z x]⟩ := by
  refine ⟨rfl, fun c hc => ?_⟩
  have e : c = sgn z x := by simpa using hc
  have hl : x.natAbs - 1 < z.cps.toList.length := by
    have : z.cps.toList.length = n := hz.1
    omega
  rw [e]
  unfold sgn
  exact hz.2 _ (List.mem_of_getElem? (getD_at (d := 0) hl))
theorem nice_signs {n : Nat} {z : Str} (hz : OwnS n z) : ∀ {ls : List Int}, (∀ x ∈ ls, 1 ≤ x ∧ x ≤ (n : Int)) → NiceAll (61 * ls.length) 0 (dO z ls)
  | [], _ => NiceAll.nil
  | x :: t, h => (NiceAll.cons (nice_own (sgn_own hz (by have := h x List.mem_cons_self; omega) (by have := h x List.mem_cons_self; omega)) (by decide : 1 ≤ 60)) (nice_signs hz fun y hy => h y (List.mem_cons_of_mem _ hy))).mono (by rw [List.length_cons]; omega) (Nat.le_refl _)
section
variable {P : Program} {w : World} {K : PySem.W.Frag} {mg : Str → Option Value} {base : Heap}
def spLaw (K : PySem.W.Frag) : Sp := fun vs H Q _ => ∃ (a : Addr) (ns : List Int), vs = [.ref a] ∧ SqL K H a (ns.map V.int) ∧ ns.length ≤ 63 ∧ ∀ H', Q (.bl true) H'
theorem ok_law {f fK fD fM fT fU fH fS fG fO fL : Addr} {fd fdK fdD fdM fdT fdU fdH fdS fdG fdO fdL : FuncData} (F : Fun K "law" "law" slaw f fd) (T : Bl mg)
    (G_law_deck : FnOk P w K mg base CX0 1 fK fdK ["script"] (spDeck K)) (C_law_deck : Callee K mg "_law_deck" fK fdK ["script"])
    (G_law_draw : FnOk P w K mg base CX0 1 fD fdD ["deck", "many"] spDraw) (C_law_draw : Callee K mg "_law_draw" fD fdD ["deck", "many"])
    (G_law_mixed : FnOk P w K mg base CX0 2 fM fdM ["deck", "items"] (spMixed K)) (C_law_mixed : Callee K mg "_law_mixed" fM fdM ["deck", "items"])
    (G_law_literals : FnOk P w K mg base CX0 3 fT fdT ["deck"] (spLits K)) (C_law_literals : Callee K mg "_law_literals" fT fdT ["deck"])
    (G_law_due : FnOk P w K mg base CX0 1 fU fdU ["literals"] (spDue K)) (C_law_due : Callee K mg "_law_due" fU fdU ["literals"])
    (G_law_heard : FnOk P w K mg base CX0 2 fH fdH ["literals", "is_named"] (spHeard K)) (C_law_heard : Callee K mg "_law_heard" fH fdH ["literals", "is_named"])
    (G_law_sentence : FnOk P w K mg base CX0 4 fS fdS ["deck", "n", "many", "most"] (spSentence K)) (C_law_sentence : Callee K mg "_law_sentence" fS fdS ["deck", "n", "many", "most"])
    (G_law_great : FnOk P w K mg base CX0 4 fG fdG ["deck"] (spGreat K)) (C_law_great : Callee K mg "_law_great" fG fdG ["deck"])
    (Gowner_of : FnOk P w K mg base CX0 1 fO fdO ["sentence", "letter"] (spOwner K)) (Cowner_of : Callee K mg "owner_of" fO fdO ["sentence", "letter"]) (Kowner_of : KwRev fdO ["sentence", "letter"])
    (G_law_is_less : FnG P w K mg base 2 fL fdL ["deck", "owners", "rows"] (spIsLess K)) (C_law_is_less : Callee K mg "_law_is_less" fL fdL ["deck", "owners", "rows"]) :
    FnG P w K mg base 5 f fd ["script"] (spLaw K) := by
  refine okG F sclaw (fun vs H Q E h => ?_) (fun cdv A outer s H vs Q E hr hg h => ?_)
  · obtain ⟨a, ns, rfl, _⟩ := h
    rfl
  · obtain ⟨a, ns, rfl, ha, hl, q⟩ := h
    refine ⟨_, (pss_cons (ps_set (i := 1) sclaw.nd rfl (Or.inl rfl) (pe_call G_law_deck (hr.mono (by decide)) (by rfl) C_law_deck.m C_law_deck.k C_law_deck.b .nil pass0 (pa_cons (pv 0) pa_nil)))
 (pss_cons (ps_for PassesOwn.never rfl (pi_range1 (by rfl) T.range (pa_cons pe_int pa_nil)) (pg_name (i := 2) sclaw.nd rfl (Or.inl rfl)) (pss_cons (ps_set (i := 3) sclaw.nd rfl (Or.inl rfl) (pe_call G_law_literals (hr.mono (by decide)) (by rfl) C_law_literals.m C_law_literals.k C_law_literals.b .nil pass0 (pa_cons (pv 1) pa_nil)))
 (pss_cons (ps_set (i := 4) sclaw.nd rfl (Or.inl rfl) (pe_callB (c_repr (K := K) rfl hg hr.units) (by rfl) T.repr (by decide +kernel) (pa_cons (pe_call G_law_due (hr.mono (by decide)) (by rfl) C_law_due.m C_law_due.k C_law_due.b .nil pass0 (pa_cons (pv 3) pa_nil)) pa_nil)))
 (pss_one (ps_if (PW.pt (pw_or (pt_cmpR op_ne (pe_callB (c_repr (K := K) rfl hg hr.units) (by rfl) T.repr (by decide +kernel) (pa_cons (pe_call G_law_heard (hr.mono (by decide)) (by rfl) C_law_heard.m C_law_heard.k C_law_heard.b .nil pass0 (pa_cons (pv 3) (pa_cons (pe_cmpR op_eq (pe_op op_mod (pv 2) pe_int) pe_int (nomark _)) pa_nil))) pa_nil)) (pv 4) (nomark _)) (pw_or1 (pt_cmpR op_ne (pe_callB (c_repr (K := K) rfl hg hr.units) (by rfl) T.repr (by decide +kernel) (pa_cons (pe_call G_law_heard (hr.mono (by decide)) (by rfl) C_law_heard.m C_law_heard.k C_law_heard.b .nil pass0 (pa_cons (pv 3) (pa_cons pe_bl pa_nil))) pa_nil)) (pv 4) (nomark _))))) (pss_one (ps_ret pe_bl)) pss_nil)))))
 (pss_cons (ps_for PassesOwn.never rfl (pi_range1 (by rfl) T.range (pa_cons pe_int pa_nil)) (pg_name (i := 2) sclaw.nd rfl (Or.inl rfl)) (pss_cons (ps_asg (pe_call G_law_sentence (hr.mono (by decide)) (by rfl) C_law_sentence.m C_law_sentence.k C_law_sentence.b .nil pass0 (pa_cons (pv 1) (pa_cons (pe_op op_add pe_int (pe_call G_law_draw (hr.mono (by decide)) (by rfl) C_law_draw.m C_law_draw.k C_law_draw.b .nil pass0 (pa_cons (pv 1) (pa_cons pe_int pa_nil)))) (pa_cons pe_int (pa_cons pe_int pa_nil))))) (pgk_tup (K := K) rfl rfl (pgs_cons (pg_name (i := 5) sclaw.nd rfl (Or.inr rfl)) (pgs_cons (pg_name (i := 6) sclaw.nd rfl (Or.inr rfl)) pgs_nil))))
 (pss_cons (ps_if (PW.pt (pw_and (pt_cmpR op_eq (pv 2) pe_int (nomark _)) (pw_and1 (pt_cmpR op_eq (pe_call G_law_draw (hr.mono (by decide)) (by rfl) C_law_draw.m C_law_draw.k C_law_draw.b .nil pass0 (pa_cons (pv 1) (pa_cons pe_int pa_nil))) pe_int (nomark _))))) (pss_one (ps_asg (pe_call G_law_great (hr.mono (by decide)) (by rfl) C_law_great.m C_law_great.k C_law_great.b .nil pass0 (pa_cons (pv 1) pa_nil)) (pgk_tup (K := K) rfl rfl (pgs_cons (pg_name (i := 5) sclaw.nd rfl (Or.inr rfl)) (pgs_cons (pg_name (i := 6) sclaw.nd rfl (Or.inr rfl)) pgs_nil))))) pss_nil)
 (pss_cons (ps_for PassesOwn.never rfl (ik_tupI (K := K) rfl (pe_slice (sk_tup (K := K) rfl) (pv 6) po_none (po_some pe_int))) (pg_name (i := 7) sclaw.nd rfl (Or.inl rfl)) (pss_one (ps_if (pt_cmpR op_ne (pe_callB (c_repr (K := K) rfl hg hr.units) (by rfl) T.repr (by decide +kernel) (pa_cons (pe_call G_law_heard (hr.mono (by decide)) (by rfl) C_law_heard.m C_law_heard.k C_law_heard.b .nil pass0 (pa_cons (pe_callTy (c_tuple (K := K) rfl) (by rfl) T.tuple (by decide +kernel) (pa_cons (pe_call G_law_mixed (hr.mono (by decide)) (by rfl) C_law_mixed.m C_law_mixed.k C_law_mixed.b .nil pass0 (pa_cons (pv 1) (pa_cons (pe_op (ok_catT (K := K) rfl) (pv 7) (pe_slice (sk_tup (K := K) rfl) (pv 7) po_none (po_some pe_int))) pa_nil))) pa_nil)) (pa_cons pe_bl pa_nil))) pa_nil)) (pe_callB (c_repr (K := K) rfl hg hr.units) (by rfl) T.repr (by decide +kernel) (pa_cons (pe_lst (pa_cons pe_str (pa_cons (pv 7) pa_nil))) pa_nil)) (nomark _)) (pss_one (ps_ret pe_bl)) pss_nil)))
 (pss_cons (ps_set (i := 8) sclaw.nd rfl (Or.inl rfl) (pe_slice (sk_list (K := K) rfl) (pe_call G_law_mixed (hr.mono (by decide)) (by rfl) C_law_mixed.m C_law_mixed.k C_law_mixed.b .nil pass0 (pa_cons (pv 1) (pa_cons (pe_listRg rfl (by rfl) T.list (prg_2 (by rfl) T.range pe_int (pe_op op_add (pe_callB c_lenS (by rfl) T.len (by decide +kernel) (pa_cons (pv 5) pa_nil)) pe_int))) pa_nil))) po_none (po_some pe_int)))
 (pss_cons (ps_setLc (i := 9) (own := [("letter", 10)]) (g := gName 10) rfl sclaw.nd rfl rfl (sw_true rfl rfl rfl (by decide +kernel)) (ik_listI (K := K) rfl (pv 8)) (blkOk_by (own := [("letter", 10)]) (N := ["script", "deck", "turn", "literals", "due", "owners", "rows", "row", "letters", "told", "letter"]) (sc := defScope slaw) (by decide +kernel)) (fun _ _ _ _ _ => (pg_name (i := 10) sclaw.nd rfl (Or.inl rfl))) (fun _ _ _ _ _ => pts_nil) (fun _ _ _ _ _ => (pe_call Gowner_of (hr.mono (by decide)) (by rfl) Cowner_of.m Cowner_of.k Cowner_of.b .nil pass0 (pa_cons (pe_tup (pa_cons (pv 5) (pa_cons (pv 6) pa_nil))) (pa_cons (pv 10) pa_nil)))))
 (pss_cons (ps_set (i := 9) sclaw.nd rfl (Or.inl rfl) (pe_op op_cat (pv 9) (pe_lc (own := [("letter", 10)]) (g := gName 10) rfl sclaw.nd (ik_listI (K := K) rfl (pe_slice (sk_list (K := K) rfl) (pv 8) po_none (po_some pe_int))) (blkOk_by (own := [("letter", 10)]) (N := ["script", "deck", "turn", "literals", "due", "owners", "rows", "row", "letters", "told", "letter"]) (sc := defScope slaw) (by decide +kernel)) (fun _ _ _ _ _ => (pg_name (i := 10) sclaw.nd rfl (Or.inl rfl))) (fun _ _ _ _ _ => pts_nil) (fun _ _ _ _ _ => (pe_kw (E := fun _ => E0) (ks := ["letter", "sentence"]) (g := List.reverse) (gV := List.reverse) Gowner_of (hr.mono (by decide)) (by rfl) Cowner_of.m Cowner_of.k Kowner_of (fun _ r => rel_rev r) (fun _ => passAt0) (pk_cons (pv 10) (pk_cons (pe_tup (pa_cons (pv 5) (pa_cons (pv 6) pa_nil))) pk_nil)))))))
 (pss_cons (ps_if (pt_cmpR op_ne (pe_callB (c_repr (K := K) rfl hg hr.units) (by rfl) T.repr (by decide +kernel) (pa_cons (pv 9) pa_nil)) (pe_callB (c_repr (K := K) rfl hg hr.units) (by rfl) T.repr (by decide +kernel) (pa_cons (pe_lc (own := [("letter", 10)]) (g := gName 10) rfl sclaw.nd (ik_listI (K := K) rfl (pe_op op_cat (pv 8) (pe_slice (sk_list (K := K) rfl) (pv 8) po_none (po_some pe_int)))) (blkOk_by (own := [("letter", 10)]) (N := ["script", "deck", "turn", "literals", "due", "owners", "rows", "row", "letters", "told", "letter"]) (sc := defScope slaw) (by decide +kernel)) (fun _ _ _ _ _ => (pg_name (i := 10) sclaw.nd rfl (Or.inl rfl))) (fun _ _ _ _ _ => pts_nil) (fun _ _ _ _ _ => (pe_ix ix_str (pv 5) (pe_op op_sub (pv 10) pe_int) (fun _ _ => rfl)))) pa_nil)) (nomark _)) (pss_one (ps_ret pe_bl)) pss_nil)
 (pss_one (ps_if (PW.pt (pw_or (pt_not (pt_val (pe_callG G_law_is_less (hr.mono (by decide)) hg (by rfl) C_law_is_less.m C_law_is_less.k C_law_is_less.b (pa_cons (pv 1) (pa_cons (pv 5) (pa_cons (pv 6) pa_nil)))))) (pw_or1 (pt_not (pt_val (pe_callG G_law_is_less (hr.mono (by decide)) hg (by rfl) C_law_is_less.m C_law_is_less.k C_law_is_less.b (pa_cons (pv 1) (pa_cons (pv 5) (pa_cons (pv 6) pa_nil))))))))) (pss_one (ps_ret pe_bl)) pss_nil))))))))))
 (pss_one (ps_ret pe_bl))))), ?_⟩
    refine rd_start (σ' := [some (.ref a), none, none, none, none, none, none, none, none, none, none]) rfl ?_
    walk_at "rqs"
    refine ⟨a, ns, rfl, ha, hl, fun d l H1 e1 hd hl0 hD1 => ?_⟩
    walk_at "rqs"
    refine rd_rng1 (by decide) (by decide) ?_
    refine fr_range (lo := 0) (n := 12) (fun i σ' H' => ∃ x2 x3 x4 : Option V, σ' = [some (.ref a), some (.ref d), x2, x3, x4, none, none, none, none, none, none] ∧ DeckL d l H')
      ⟨_, _, _, rfl, hD1⟩ (fun i σ' H2 hi hP => ?_) fun σ' H2 hP => ?_
    · obtain ⟨x2, x3, x4, rfl, hD2⟩ := hP
      refine rd_start (σ' := [some (.ref a), some (.ref d), some (.int (0 + (i : Int))), x3, x4, none, none, none, none, none, none]) rfl ?_
      walk_at "rds"
      refine ⟨d, l, rfl, hD2, fun o xs H3 g3 so lx hb => ?_⟩
      walk_at "rds"
      refine ⟨o, xs, rfl, so, by omega, hb, fun q1 d1 H4 e4 h1 k1 => ?_⟩
      obtain ⟨nd, id1⟩ := h1.nice hb
      walk_at "rds"
      refine rd_repr k1 nd (by decide) (by decide) id1 ?_
      walk_at "rds"
      refine rd_I (by decide) ?_
      walk_at "rds"
      refine ⟨o, _, xs, rfl, Evl.ex_t e4 so, by omega, hb, fun q2 d2 H5 e5 h2 k2 => ?_⟩
      have u2 := h2.eq h1
      subst u2
      walk_at "rds"
      refine rd_repr k2 nd (by decide) (by decide) id1 ?_
      walk_at "rds"
      refine rd_iten (fun c => absurd rfl c) fun _ => ?_
      walk_at "rds"
      refine ⟨o, false, xs, rfl, Evl.ex_t (e4.trans e5) so, by omega, hb, fun q3 d3 H6 e6 h3 k3 => ?_⟩
      have u3 := h3.eq h1
      subst u3
      walk_at "rds"
      refine rd_repr k3 nd (by decide) (by decide) id1 ?_
      walk_at "rds"
      refine rd_iten (fun c => absurd rfl c) fun _ => ?_
      walk_at "rds"
      exact ⟨_, _, _, rfl, (Gl.ex ((e4.trans e5).trans e6) g3.dk).dk⟩
    obtain ⟨x2, x3, x4, rfl, hD2⟩ := hP
    walk_at "rqs"
    refine rd_rng1 (by decide) (by decide) ?_
    refine fr_range (lo := 0) (n := 4) (fun i σ' H' => ∃ y2 y5 y6 y7 y8 y9 ya : Option V, σ' = [some (.ref a), some (.ref d), y2, x3, x4, y5, y6, y7, y8, y9, ya] ∧ DeckL d l H')
      ⟨_, _, _, _, _, _, _, rfl, hD2⟩ (fun i σ' H3 hi hP => ?_) fun σ' H3 hP => ?_
    · obtain ⟨y2, y5, y6, y7, y8, y9, ya, rfl, hD3⟩ := hP
      refine rd_start (σ' := [some (.ref a), some (.ref d), some (.int (0 + (i : Int))), x3, x4, y5, y6, y7, y8, y9, ya]) rfl ?_
      walk_at "rqs"
      refine ⟨d, l, 8, rfl, hD3, by decide, by decide, fun r H4 g4 r0 r1 => ?_⟩
      walk_at "rqs"
      refine ⟨d, l, 1 + r, 8, 8, rfl, g4.dk, by omega, by omega, by decide, by decide, by decide, by decide, fun o z rs H5 g5 hs hlen => ?_⟩
      obtain ⟨c, xs, so, sc, dx, hz, hrow, _⟩ := hs
      refine rd_gtup2 (x := .str z) (y := .ref c) so rfl (σ' := [some (.ref a), some (.ref d), some (.int (0 + (i : Int))), x3, x4, some (.str z), some (.ref c), y7, y8, y9, ya]) rfl ?_
      walk_at "rqs"
      refine rd_ifI (fun σ' H6 => ∃ (n : Nat) (z : Str) (c : Addr) (xs : List V) (rs : List (List Int)), σ' = [some (.ref a), some (.ref d), some (.int (0 + (i : Int))), x3, x4, some (.str z), some (.ref c), y7, y8, y9, ya] ∧ DeckL d l H6 ∧ 1 ≤ n ∧ n ≤ 60 ∧
          SqT K H6 c xs ∧ DpAll K H6 xs (rs.map dR) ∧ OwnS n z ∧ (∀ r ∈ rs, Row n r) ∧ rs.length ≤ 300) (fun N kN => ?_) fun σ' H6 hI => ?_
      · have stay : ∀ {H6 : Hp}, Gl d l H5 H6 → N [some (.ref a), some (.ref d), some (.int (0 + (i : Int))), x3, x4, some (.str z), some (.ref c), y7, y8, y9, ya] H6 := fun g6 =>
          kN _ _ ⟨(1 + r).toNat, z, c, xs, rs, rfl, g6.dk, by omega, by omega, g6.tup g5.dk sc, Gl.rows g6 g5.dk dx, hz, hrow, by omega⟩
        walk_at "rds"
        refine rd_ite (fun c1 => ?_) (fun c1 => ?_)
        · walk_at "rds"
          refine ⟨d, l, 6, rfl, g5.dk, by decide, by decide, fun u H6 g6 u0 u1 => ?_⟩
          walk_at "rds"
          refine rd_ite (fun c2 => ?_) (fun c2 => ?_)
          · walk_at "rds"
            refine ⟨d, l, rfl, g6.dk, fun o2 z2 n2 rs2 H7 g7 n20 n21 hs2 hl2 => ?_⟩
            obtain ⟨c2', xs2, so2, sc2, dx2, hz2, hrow2, _⟩ := hs2
            refine rd_gtup2 (x := .str z2) (y := .ref c2') so2 rfl (σ' := [some (.ref a), some (.ref d), some (.int (0 + (i : Int))), x3, x4, some (.str z2), some (.ref c2'), y7, y8, y9, ya]) rfl ?_
            walk_at "rds"
            exact kN _ _ ⟨n2, z2, c2', xs2, rs2, rfl, g7.dk, by omega, n21, sc2, dx2, hz2, hrow2, by omega⟩
          · walk_at "rds"
            exact stay g6
        · walk_at "rds"
          exact stay (Gl.refl g5.dk)
      clear so sc dx hz hrow hlen g5 g4
      obtain ⟨n, z, c, xs, rs, rfl, hD6, n0, n1, sc, dx, hz, hrow, hlen⟩ := hI
      have lxs : xs.length = rs.length := by rw [dpAll_len dx, List.length_map]
      walk_at "rqs"
      refine rd_slT sc fun q3 H7 e7 s7 => ?_
      rw [show ((3 : Int)) = ((3 : Nat) : Int) from rfl, cut_take (by omega)] at s7
      refine rd_ref s7 ?_
      have g7 := Gl.ex e7 hD6
      refine fr_tup (xs := xs.take ((3 : Nat) : Int).toNat) (fun j σ' H' => ∃ y : Option V, σ' = [some (.ref a), some (.ref d), some (.int (0 + (i : Int))), x3, x4, some (.str z), some (.ref c), y, y8, y9, ya] ∧ Gl d l H7 H')
        ⟨_, rfl, Gl.refl g7.dk⟩ (fun j σ' H' _ ⟨_, _, g⟩ => g.tup g7.dk s7) (fun j x σ' H8 hj hP => ?_) fun σ' H8 hP => ?_
      · obtain ⟨y, rfl, g8⟩ := hP
        have hx : xs[j]? = some x := by
          rw [List.getElem?_take] at hj
          split at hj
          · exact hj
          · cases hj
        obtain ⟨d0, hd0, hxd⟩ := dpAll_get dx hx
        rw [List.getElem?_map] at hd0
        obtain ⟨r', hr', rfl⟩ := Option.map_eq_some_iff.mp hd0
        have hrr := hrow r' (List.mem_of_getElem? hr')
        have lrr := hrr.length
        obtain ⟨b, rfl, sb⟩ := dp_row (Gl.row g8 g7.dk (Gl.row g7 hD6 hxd))
        refine rd_start (σ' := [some (.ref a), some (.ref d), some (.int (0 + (i : Int))), x3, x4, some (.str z), some (.ref c), some (.ref b), y8, y9, ya]) rfl ?_
        walk_at "rds"
        refine rd_slT sb fun b1 F1 f1 u1 => ?_
        rw [show ((1 : Int)) = ((1 : Nat) : Int) from rfl, cut_take (by omega), Int.toNat_natCast, ← List.map_take] at u1
        refine rd_catT (Evl.ex_t f1 sb) u1 (by rw [List.length_map, List.length_map, List.length_take, sizeLine_eq]; omega) fun b2 F2 f2 u2 => ?_
        rw [← List.map_append] at u2
        have g9 := Gl.ex (f1.trans f2) g8.dk
        walk_at "rds"
        refine ⟨d, l, b2, r' ++ r'.take 1, rfl, g9.dk, .inr u2, by rw [List.length_append, List.length_take]; omega, fun m ms HA gA hm hms pm => ?_⟩
        walk_at "rds"
        refine rd_tupL (SqL.of hms) fun o hoo => ?_
        have eo := Evl.Ex.new (o := .tup (ms.map V.int)) hoo
        walk_at "rds"
        have hml : ms.length ≤ 1000 := by
          rw [pm.length_eq, List.length_append, List.length_take]
          omega
        have hmb : ∀ x ∈ ms, 1 ≤ x.natAbs ∧ x.natAbs ≤ 60 := fun x hx => by
          have h1 : x ∈ r' := (List.mem_append.mp (pm.mem_iff.mp hx)).elim id List.mem_of_mem_take
          have := hrr.2 x h1
          omega
        refine ⟨o, false, ms, rfl, SqT.of upd_same, hml, hmb, fun qh dh HB eB hh kh => ?_⟩
        have edh := heard_row hrr pm hh
        obtain ⟨ndh, idh⟩ := hh.nice hmb
        have sbB : SqT K HB b (r'.map V.int) := Evl.ex_t (eo.trans eB) (gA.tup g9.dk (Evl.ex_t (f1.trans f2) sb))
        walk_at "rds"
        refine rd_repr kh ndh (by decide) (by decide) idh ?_
        walk_at "rds"
        refine ⟨(by show 2 ≤ sizeLine; decide), fun b3 hb3 => ?_⟩
        have eb3 := Evl.Ex.new (o := .lst [V.str "told", V.ref b]) hb3
        walk_at "rds"
        refine rd_repr (d := dh) (edh ▸ .lst (SqL.of upd_same) (.cons (.str _) (.cons (dp_T (Evl.ex_t eb3 sbB)) .nil))) ndh (by decide) (by decide) idh ?_
        walk_at "rds"
        refine rd_iten (fun c => absurd rfl c) fun _ => ?_
        walk_at "rds"
        exact ⟨_, rfl, (g8.trans g9).trans (gA.trans (Gl.ex ((eo.trans eB).trans eb3) gA.dk))⟩
      obtain ⟨y, rfl, g8⟩ := hP
      have hD8 := g8.dk
      have sc8 := g8.tup g7.dk (g7.tup hD6 sc)
      have dx8 := Gl.rows g8 g7.dk (Gl.rows g7 hD6 dx)
      clear sc dx s7 g7 g8 e7 hD6
      walk_at "rqs"
      refine rd_lenS (by rw [hz.1, sizeLine_eq]; omega) ?_
      rw [hz.1]
      walk_at "rqs"
      refine ⟨RgOk.of_le (by omega) (by omega) (by omega) (by omega), fun b hb => ?_⟩
      rw [rgV_ints]
      have g9 := Gl.new (o := .lst ((rgI 1 ((n : Int) + 1)).map V.int)) hD8 hb
      walk_at "rqs"
      refine ⟨d, l, b, rgI 1 ((n : Int) + 1), rfl, g9.dk, .inl (SqL.of upd_same), by rw [rgI_length]; omega, fun o2 ms HA gA ho2 hms pm => ?_⟩
      walk_at "rqs"
      refine rd_slL (SqL.of hms) fun u hu => ?_
      rw [show ((5 : Int)) = ((5 : Nat) : Int) from rfl, cut_take (by omega), ← List.map_take]
      have gB := gA.trans (Gl.new (o := .lst ((ms.take ((5 : Nat) : Int).toNat).map V.int)) gA.dk hu)
      have scB := gB.tup g9.dk (g9.tup hD8 sc8)
      have dxB := Gl.rows gB g9.dk (Gl.rows g9 hD8 dx8)
      have hDB := gB.dk
      have hls : ∀ x ∈ ms.take ((5 : Nat) : Int).toNat, 1 ≤ x ∧ x ≤ (n : Int) := fun x hx => by
        have h1 := rgI_mem.mp (pm.mem_iff.mp (List.mem_of_mem_take hx))
        omega
      have lls : (ms.take ((5 : Nat) : Int).toNat).length ≤ 5 := List.length_take_le _ _
      have xB : (upd HA u (.lst ((ms.take ((5 : Nat) : Int).toNat).map V.int))) u = some (.lst ((ms.take ((5 : Nat) : Int).toNat).map V.int)) := upd_same
      clear sc8 dx8 g9 gA gB hD8 hms hu pm ho2
      generalize upd HA u (.lst ((ms.take ((5 : Nat) : Int).toNat).map V.int)) = HB at scB dxB hDB xB ⊢
      generalize ms.take ((5 : Nat) : Int).toNat = ls at hls lls xB ⊢
      walk_at "rqs"
      refine rd_refL (SqL.of xB) ?_
      refine lc_fmL (fun _ => true) (fun x => .str ⟨#[sgn z x]⟩) (σx := fun x => [some (.ref a), some (.ref d), some (.int (0 + (i : Int))), x3, x4, some (.str z), some (.ref c), y, some (.ref u), y9, some x]) (SqL.of xB) (by omega) (fun _ => rfl) (fun _ => rfl)
        (fun x hx H' N S e kN kS => ?_) fun D1 HC eC eD1 hD1' => ?_
      · have hx1 := hls x hx
        walk_at "rds"
        refine ⟨(by show 2 ≤ sizeLine; decide), fun t ht => ?_⟩
        have et := Evl.Ex.new (o := .tup [V.str z, V.ref c]) ht
        walk_at "rds"
        exact ⟨t, c, z, n, x, rfl, SqT.of upd_same, hz, n1, hx1.1, hx1.2, kN rfl _ et⟩
      rw [List.filter_eq_self.mpr fun _ _ => rfl] at hD1'
      have xC := eC _ _ xB
      walk_at "rqs"
      refine rd_slL (SqL.of xC) fun u2 hu2 => ?_
      rw [cut_take (b := 1) (by decide), show (1 : Int).toNat = 1 from rfl, ← List.map_take]
      have eE := Evl.Ex.new (o := .lst ((ls.take 1).map V.int)) hu2
      refine rd_refL (SqL.of upd_same) ?_
      refine lc_fmL (fun _ => true) (fun x => .str ⟨#[sgn z x]⟩) (σx := fun x => [some (.ref a), some (.ref d), some (.int (0 + (i : Int))), x3, x4, some (.str z), some (.ref c), y, some (.ref u), some (.ref D1), some x]) (SqL.of upd_same) (by rw [List.length_take]; omega) (fun _ => rfl) (fun _ => rfl)
        (fun x hx H' N S e kN kS => ?_) fun D2 HD eDd eD2 hD2' => ?_
      · have hx1 := hls x (List.mem_of_mem_take hx)
        walk_at "rds"
        refine ⟨(by show 2 ≤ sizeLine; decide), fun t ht => ?_⟩
        have et := Evl.Ex.new (o := .tup [V.str z, V.ref c]) ht
        walk_at "rds"
        exact ⟨rfl, t, c, z, n, x, rfl, SqT.of upd_same, hz, n1, hx1.1, hx1.2, kN rfl _ et⟩
      rw [List.filter_eq_self.mpr fun _ _ => rfl] at hD2'
      refine rd_catL ((eE.trans eDd) _ _ hD1') hD2' (by rw [List.length_map, List.length_map, List.length_take, sizeLine_eq]; omega) fun t3 ht3 => ?_
      have eF := Evl.Ex.new (o := .lst ((ls.map fun x => V.str ⟨#[sgn z x]⟩) ++ (ls.take 1).map fun x => V.str ⟨#[sgn z x]⟩)) ht3
      have eBF := ((eC.trans eE).trans eDd).trans eF
      have xF := eBF _ _ xB
      have hls2 : ∀ x ∈ ls ++ ls.take 1, 1 ≤ x ∧ x ≤ (n : Int) := fun x hx => hls x ((List.mem_append.mp hx).elim id List.mem_of_mem_take)
      have l2 : (ls ++ ls.take 1).length ≤ 10 := by
        rw [List.length_append, List.length_take]
        omega
      have nL : Nice 700 1 (.list (dO z (ls ++ ls.take 1))) := (Nice.lst (nice_signs hz hls2)).mono (by omega) (by decide)
      have eO : upd HD t3 (.lst ((ls.map fun x => V.str ⟨#[sgn z x]⟩) ++ (ls.take 1).map fun x => V.str ⟨#[sgn z x]⟩)) t3 = some (.lst ((ls ++ ls.take 1).map fun x => V.str ⟨#[sgn z x]⟩)) := by
        rw [upd_same, List.map_append]
      clear eF eDd eE hD1' hD2' xC
      generalize upd HD t3 (.lst ((ls.map fun x => V.str ⟨#[sgn z x]⟩) ++ (ls.take 1).map fun x => V.str ⟨#[sgn z x]⟩)) = HF at eO eBF xF ⊢
      walk_at "rqs"
      refine rd_ifI (fun σ' HG => σ' = [some (.ref a), some (.ref d), some (.int (0 + (i : Int))), x3, x4, some (.str z), some (.ref c), y, some (.ref u), some (.ref t3), ya] ∧ Evl.Ex HF HG) (fun N kN => ?_) fun σ' HG hI => ?_
      · walk_at "rds"
        refine rd_repr (.lst (SqL.of eO) (dp_signs z _)) nL (by decide) (by decide) rfl ?_
        walk_at "rds"
        refine rd_slL (SqL.of xF) fun u4 hu4 => ?_
        rw [cut_take (b := 1) (by decide), show (1 : Int).toNat = 1 from rfl, ← List.map_take]
        have k1 := Evl.Ex.new (o := .lst ((ls.take 1).map V.int)) hu4
        refine rd_catL (k1 _ _ xF) upd_same (by rw [List.length_map, List.length_map, List.length_take, sizeLine_eq]; omega) fun u5 hu5 => ?_
        rw [← List.map_append]
        have k2 := k1.trans (Evl.Ex.new (o := .lst ((ls ++ ls.take 1).map V.int)) hu5)
        refine rd_refL (SqL.of upd_same) ?_
        refine lc_fmL (fun _ => true) (fun x => .str ⟨#[sgn z x]⟩) (σx := fun x => [some (.ref a), some (.ref d), some (.int (0 + (i : Int))), x3, x4, some (.str z), some (.ref c), y, some (.ref u), some (.ref t3), some x]) (SqL.of upd_same) (by omega) (fun _ => rfl) (fun _ => rfl)
          (fun x hx H' N S e kN kS => ?_) fun D3 HH eH eD3 hD3 => ?_
        · have hx1 := hls2 x hx
          walk_at "rds"
          have e2 : (x.natAbs : Int) - 1 = x - 1 := by omega
          exact rd_ixS (by rw [hz.1, sizeLine_eq]; omega) (e2 ▸ at_sgn hz (by omega) (by omega)) (kN rfl _ (Evl.Ex.refl _))
        rw [List.filter_eq_self.mpr fun _ _ => rfl] at hD3
        walk_at "rds"
        refine rd_repr (.lst (SqL.of hD3) (dp_signs z _)) nL (by decide) (by decide) rfl ?_
        walk_at "rds"
        refine rd_iten (fun c => absurd rfl c) fun _ => ?_
        walk_at "rds"
        exact kN _ _ ⟨rfl, k2.trans eH⟩
      obtain ⟨rfl, eG⟩ := hI
      have gG := Gl.ex (eBF.trans eG) hDB
      have scG := gG.tup hDB scB
      have dxG := Gl.rows gG hDB dxB
      walk_at "rds"
      refine ⟨d, l, c, n, z, xs, rs, rfl, gG.dk, hz, n1, scG, dxG, hrow, hlen, fun HI gI => ?_⟩
      walk_at "rds"
      refine rd_false ?_
      walk_at "rds"
      refine ⟨d, l, c, n, z, xs, rs, rfl, gI.dk, hz, n1, gI.tup gG.dk scG, Gl.rows gI gG.dk dxG, hrow, hlen, fun HJ gJ => ?_⟩
      walk_at "rds"
      refine rd_false ?_
      walk_at "rds"
      exact ⟨_, _, _, _, _, _, _, rfl, gJ.dk⟩
    · obtain ⟨y2, y5, y6, y7, y8, y9, ya, rfl, hD3⟩ := hP
      walk_at "rqs"
      exact q _
end
end KA
set_option Elab.async false
set_option linter.all false
set_option maxRecDepth 100000
set_option maxHeartbeats 400000
namespace KA
open PySem PySem.Spec PyProof.Rows L2 Ea
theorem cls_if {K : PySem.W.Frag} {S : Addr} {o : Option Bool} (h2 : PySem.W.isClsIn K S = true) (h3 : PySem.W.typeIn K (.ref S) = some (.type "type")) :
    (if ((PySem.W.clsIn K S).isSome && PySem.W.typeIn K (.ref S) == some (.type "type")) = true then o else none) = o := by
  have q : (PySem.W.clsIn K S).isSome = true := h2
  rw [q, h3]
  exact if_pos rfl
theorem kit_up {K : PySem.W.Frag} {t : Value} {S : Addr} (h2 : PySem.W.isClsIn K S = true) (h3 : PySem.W.typeIn K (.ref S) = some (.type "type")) (h4 : PySem.W.subIn K t (.ref S) = some true) : PySem.W.kitOne K t (.ref S) = some true := by
  have e : PySem.W.kitCls K t (.ref S) = some true := (cls_if h2 h3).trans h4
  unfold PySem.W.kitOne
  rw [e]
  split <;> rfl
theorem kit_ty {K : PySem.W.Frag} {t : Value} (h : PySem.W.subIn K t (.type "ValueError") = some true) : PySem.W.kitOne K t (.type "ValueError") = some true := by
  have m : PySem.W.kitMeta "ValueError" = true := by first | decide +kernel | rfl | kernel_rfl
  have e : PySem.W.kitCls K t (.type "ValueError") = some true := by
    show (if PySem.W.kitMeta "ValueError" = true then PySem.W.subIn K t (.type "ValueError") else none) = some true
    rw [if_pos m]
    exact h
  unfold PySem.W.kitOne
  rw [e]
  split <;> rfl
theorem exm_same {K : PySem.W.Frag} {S : Addr} (h1 : PySem.W.subIn K (.ref S) (.type "BaseException") = some true) (h2 : PySem.W.isClsIn K S = true) (h3 : PySem.W.typeIn K (.ref S) = some (.type "type")) (h4 : PySem.W.subIn K (.ref S) (.ref S) = some true) : PySem.W.exmOne K (.ref S) (.ref S) = some true := by
  have e : PySem.W.kitCls K (.ref S) (.ref S) = some true := (cls_if h2 h3).trans h4
  unfold PySem.W.exmOne
  rw [h1, e]
  exact if_pos rfl
theorem all_mk {l : PySem.W.OpenLaw} {w : World} {K : PySem.W.Frag} {h : Heap} {mg : Str → Option Value} {fa f0 f1 f2 f3 f4 f5 f6 f7 f8 f9 f10 f11 f12 f13 f14 f15 f16 C CG : Addr} (X : K.In h) (G : h.Ns mainGlobals mg) (hfa : mg "law" = some (.ref fa))
    {od0 an0 : Option Addr} {sl0 : Array (Option Value)} {oc0 kV0 dc0 pm0 cd0 ct0 : Value} {od1 an1 : Option Addr} {sl1 : Array (Option Value)} {oc1 kV1 dc1 pm1 cd1 ct1 : Value} {od2 an2 : Option Addr} {sl2 : Array (Option Value)} {oc2 kV2 dc2 pm2 cd2 ct2 : Value} {od3 an3 : Option Addr} {sl3 : Array (Option Value)} {oc3 kV3 dc3 pm3 cd3 ct3 : Value} {od4 an4 : Option Addr} {sl4 : Array (Option Value)} {oc4 kV4 dc4 pm4 cd4 ct4 : Value} {od5 an5 : Option Addr} {sl5 : Array (Option Value)} {oc5 kV5 dc5 pm5 cd5 ct5 : Value} {od6 an6 : Option Addr} {sl6 : Array (Option Value)} {oc6 kV6 dc6 pm6 cd6 ct6 : Value} {od7 an7 : Option Addr} {sl7 : Array (Option Value)} {oc7 kV7 dc7 pm7 cd7 ct7 : Value} {od8 an8 : Option Addr} {sl8 : Array (Option Value)} {oc8 kV8 dc8 pm8 cd8 ct8 : Value} {od9 an9 : Option Addr} {sl9 : Array (Option Value)} {oc9 kV9 dc9 pm9 cd9 ct9 : Value} {od10 an10 : Option Addr} {sl10 : Array (Option Value)} {oc10 kV10 dc10 pm10 cd10 ct10 : Value} {od11 an11 : Option Addr} {sl11 : Array (Option Value)} {oc11 kV11 dc11 pm11 cd11 ct11 : Value} {od12 an12 : Option Addr} {sl12 : Array (Option Value)} {oc12 kV12 dc12 pm12 cd12 ct12 : Value} {od13 an13 : Option Addr} {sl13 : Array (Option Value)} {oc13 kV13 dc13 pm13 cd13 ct13 : Value} {od14 an14 : Option Addr} {sl14 : Array (Option Value)} {oc14 kV14 dc14 pm14 cd14 ct14 : Value} {od15 an15 : Option Addr} {sl15 : Array (Option Value)} {oc15 kV15 dc15 pm15 cd15 ct15 : Value} {od16 an16 : Option Addr} {sl16 : Array (Option Value)} {oc16 kV16 dc16 pm16 cd16 ct16 : Value}
    (a0 : PySem.W.nsIn K mainGlobals "clause_of" = some (some (.ref f0))) (l0 : K.lookup f0 = some ⟨oc0, od0, .func (PySem.W.fnOf "clause_of" "clause_of" (defArgs sclause_of) (defBody sclause_of) (defScope sclause_of) .none kV0 dc0 pm0 an0 cd0 ct0), sl0⟩) (c0 : PySem.W.codeIn K cd0 "clause_of" = true) (k0 : PySem.W.keepIn K (.ref f0) = true)
    (a1 : PySem.W.nsIn K mainGlobals "owner_of" = some (some (.ref f1))) (l1 : K.lookup f1 = some ⟨oc1, od1, .func (PySem.W.fnOf "owner_of" "owner_of" (defArgs sowner_of) (defBody sowner_of) (defScope sowner_of) .none kV1 dc1 pm1 an1 cd1 ct1), sl1⟩) (c1 : PySem.W.codeIn K cd1 "owner_of" = true) (k1 : PySem.W.keepIn K (.ref f1) = true)
    (a2 : PySem.W.nsIn K mainGlobals "less" = some (some (.ref f2))) (l2 : K.lookup f2 = some ⟨oc2, od2, .func (PySem.W.fnOf "less" "less" (defArgs sless) (defBody sless) (defScope sless) .none kV2 dc2 pm2 an2 cd2 ct2), sl2⟩) (c2 : PySem.W.codeIn K cd2 "less" = true) (k2 : PySem.W.keepIn K (.ref f2) = true)
    (a3 : PySem.W.nsIn K mainGlobals "_law_deck" = some (some (.ref f3))) (l3 : K.lookup f3 = some ⟨oc3, od3, .func (PySem.W.fnOf "_law_deck" "_law_deck" (defArgs s_law_deck) (defBody s_law_deck) (defScope s_law_deck) .none kV3 dc3 pm3 an3 cd3 ct3), sl3⟩) (c3 : PySem.W.codeIn K cd3 "_law_deck" = true) (k3 : PySem.W.keepIn K (.ref f3) = true)
    (a4 : PySem.W.nsIn K mainGlobals "_law_draw" = some (some (.ref f4))) (l4 : K.lookup f4 = some ⟨oc4, od4, .func (PySem.W.fnOf "_law_draw" "_law_draw" (defArgs s_law_draw) (defBody s_law_draw) (defScope s_law_draw) .none kV4 dc4 pm4 an4 cd4 ct4), sl4⟩) (c4 : PySem.W.codeIn K cd4 "_law_draw" = true) (k4 : PySem.W.keepIn K (.ref f4) = true)
    (a5 : PySem.W.nsIn K mainGlobals "_law_pick" = some (some (.ref f5))) (l5 : K.lookup f5 = some ⟨oc5, od5, .func (PySem.W.fnOf "_law_pick" "_law_pick" (defArgs s_law_pick) (defBody s_law_pick) (defScope s_law_pick) .none kV5 dc5 pm5 an5 cd5 ct5), sl5⟩) (c5 : PySem.W.codeIn K cd5 "_law_pick" = true) (k5 : PySem.W.keepIn K (.ref f5) = true)
    (a6 : PySem.W.nsIn K mainGlobals "_law_mixed" = some (some (.ref f6))) (l6 : K.lookup f6 = some ⟨oc6, od6, .func (PySem.W.fnOf "_law_mixed" "_law_mixed" (defArgs s_law_mixed) (defBody s_law_mixed) (defScope s_law_mixed) .none kV6 dc6 pm6 an6 cd6 ct6), sl6⟩) (c6 : PySem.W.codeIn K cd6 "_law_mixed" = true) (k6 : PySem.W.keepIn K (.ref f6) = true)
    (a7 : PySem.W.nsIn K mainGlobals "_law_owners" = some (some (.ref f7))) (l7 : K.lookup f7 = some ⟨oc7, od7, .func (PySem.W.fnOf "_law_owners" "_law_owners" (defArgs s_law_owners) (defBody s_law_owners) (defScope s_law_owners) .none kV7 dc7 pm7 an7 cd7 ct7), sl7⟩) (c7 : PySem.W.codeIn K cd7 "_law_owners" = true) (k7 : PySem.W.keepIn K (.ref f7) = true)
    (a8 : PySem.W.nsIn K mainGlobals "_law_clause" = some (some (.ref f8))) (l8 : K.lookup f8 = some ⟨oc8, od8, .func (PySem.W.fnOf "_law_clause" "_law_clause" (defArgs s_law_clause) (defBody s_law_clause) (defScope s_law_clause) .none kV8 dc8 pm8 an8 cd8 ct8), sl8⟩) (c8 : PySem.W.codeIn K cd8 "_law_clause" = true) (k8 : PySem.W.keepIn K (.ref f8) = true)
    (a9 : PySem.W.nsIn K mainGlobals "_law_unlike" = some (some (.ref f9))) (l9 : K.lookup f9 = some ⟨oc9, od9, .func (PySem.W.fnOf "_law_unlike" "_law_unlike" (defArgs s_law_unlike) (defBody s_law_unlike) (defScope s_law_unlike) .none kV9 dc9 pm9 an9 cd9 ct9), sl9⟩) (c9 : PySem.W.codeIn K cd9 "_law_unlike" = true) (k9 : PySem.W.keepIn K (.ref f9) = true)
    (a10 : PySem.W.nsIn K mainGlobals "_law_sentence" = some (some (.ref f10))) (l10 : K.lookup f10 = some ⟨oc10, od10, .func (PySem.W.fnOf "_law_sentence" "_law_sentence" (defArgs s_law_sentence) (defBody s_law_sentence) (defScope s_law_sentence) .none kV10 dc10 pm10 an10 cd10 ct10), sl10⟩) (c10 : PySem.W.codeIn K cd10 "_law_sentence" = true) (k10 : PySem.W.keepIn K (.ref f10) = true)
    (a11 : PySem.W.nsIn K mainGlobals "_law_great" = some (some (.ref f11))) (l11 : K.lookup f11 = some ⟨oc11, od11, .func (PySem.W.fnOf "_law_great" "_law_great" (defArgs s_law_great) (defBody s_law_great) (defScope s_law_great) .none kV11 dc11 pm11 an11 cd11 ct11), sl11⟩) (c11 : PySem.W.codeIn K cd11 "_law_great" = true) (k11 : PySem.W.keepIn K (.ref f11) = true)
    (a12 : PySem.W.nsIn K mainGlobals "_law_heard" = some (some (.ref f12))) (l12 : K.lookup f12 = some ⟨oc12, od12, .func (PySem.W.fnOf "_law_heard" "_law_heard" (defArgs s_law_heard) (defBody s_law_heard) (defScope s_law_heard) .none kV12 dc12 pm12 an12 cd12 ct12), sl12⟩) (c12 : PySem.W.codeIn K cd12 "_law_heard" = true) (k12 : PySem.W.keepIn K (.ref f12) = true)
    (a13 : PySem.W.nsIn K mainGlobals "_law_due" = some (some (.ref f13))) (l13 : K.lookup f13 = some ⟨oc13, od13, .func (PySem.W.fnOf "_law_due" "_law_due" (defArgs s_law_due) (defBody s_law_due) (defScope s_law_due) .none kV13 dc13 pm13 an13 cd13 ct13), sl13⟩) (c13 : PySem.W.codeIn K cd13 "_law_due" = true) (k13 : PySem.W.keepIn K (.ref f13) = true)
    (a14 : PySem.W.nsIn K mainGlobals "_law_literals" = some (some (.ref f14))) (l14 : K.lookup f14 = some ⟨oc14, od14, .func (PySem.W.fnOf "_law_literals" "_law_literals" (defArgs s_law_literals) (defBody s_law_literals) (defScope s_law_literals) .none kV14 dc14 pm14 an14 cd14 ct14), sl14⟩) (c14 : PySem.W.codeIn K cd14 "_law_literals" = true) (k14 : PySem.W.keepIn K (.ref f14) = true)
    (a15 : PySem.W.nsIn K mainGlobals "_law_is_less" = some (some (.ref f15))) (l15 : K.lookup f15 = some ⟨oc15, od15, .func (PySem.W.fnOf "_law_is_less" "_law_is_less" (defArgs s_law_is_less) (defBody s_law_is_less) (defScope s_law_is_less) .none kV15 dc15 pm15 an15 cd15 ct15), sl15⟩) (c15 : PySem.W.codeIn K cd15 "_law_is_less" = true) (k15 : PySem.W.keepIn K (.ref f15) = true)
    (a16 : PySem.W.nsIn K mainGlobals "law" = some (some (.ref f16))) (l16 : K.lookup f16 = some ⟨oc16, od16, .func (PySem.W.fnOf "law" "law" (defArgs slaw) (defBody slaw) (defScope slaw) .none kV16 dc16 pm16 an16 cd16 ct16), sl16⟩) (c16 : PySem.W.codeIn K cd16 "law" = true) (k16 : PySem.W.keepIn K (.ref f16) = true)
    (z0 : PySem.W.nsIn K mainGlobals "len" = some none) (z1 : PySem.W.nsIn K mainGlobals "abs" = some none) (z2 : PySem.W.nsIn K mainGlobals "min" = some none) (z3 : PySem.W.nsIn K mainGlobals "max" = some none) (z4 : PySem.W.nsIn K mainGlobals "sorted" = some none) (z5 : PySem.W.nsIn K mainGlobals "tuple" = some none) (z6 : PySem.W.nsIn K mainGlobals "list" = some none) (z7 : PySem.W.nsIn K mainGlobals "set" = some none) (z8 : PySem.W.nsIn K mainGlobals "int" = some none) (z9 : PySem.W.nsIn K mainGlobals "range" = some none) (z10 : PySem.W.nsIn K mainGlobals "repr" = some none) (z11 : PySem.W.nsIn K mainGlobals "isinstance" = some none) (z12 : PySem.W.nsIn K mainGlobals "enumerate" = some none) (z13 : PySem.W.nsIn K mainGlobals "zip" = some none) (z14 : PySem.W.nsIn K mainGlobals "sum" = some none)
    (aU : PySem.W.nsIn K mainGlobals "Unfit" = some (some (.ref C))) (aG : PySem.W.nsIn K mainGlobals "GameError" = some (some (.ref CG)))
    (xe : PySem.W.excIn K C [.type "ValueError", .type "Exception", .type "BaseException", .type "object"] "ValueError.__new__" = true) (xk : PySem.W.keepIn K (.ref C) = true)
    (xb : PySem.W.subIn K (.ref C) (.type "BaseException") = some true) (xt : PySem.W.typeIn K (.ref C) = some (.type "type"))
    (u1 : PySem.W.findIn K (.ref C) "__getattribute__" = some (some (.builtin "BaseException.__getattribute__"))) (u2 : PySem.W.findIn K (.ref C) "__getattr__" = some none)
    (u4 : PySem.W.hasDictIn K C = true) (u5 : PySem.W.findIn K (.ref C) "__class__" = some (some (.builtin "object.__class__")))
    (u6 : PySem.W.specialIn K (.builtin "object.__class__") "__get__" = some (some (.builtin "getset_descriptor.__get__"))) (u7 : PySem.W.takesIn K (.builtin "object.__class__") = some true)
    (u8 : PySem.W.mroIn K C (.type "object") = some true) (iC : PySem.W.isClsIn K C = true) (sC : PySem.W.subIn K (.ref C) (.ref C) = some true) (iG : PySem.W.isClsIn K CG = true) (tG : PySem.W.typeIn K (.ref CG) = some (.type "type")) (sG : PySem.W.subIn K (.ref C) (.ref CG) = some true)
    (zV : PySem.W.nsIn K mainGlobals "ValueError" = some none) (sV : PySem.W.subIn K (.ref C) (.type "ValueError") = some true) :
    ∃ fd : FuncData, (∀ (s : Shared) (v : Value), BindsTo s fd ⟨[v], []⟩ [("script", v)]) ∧ ∀ base : Heap, K.In base → base.Ns mainGlobals mg → FnG l.prog w K mg base 5 fa fd ["script"] (spLaw K) := by
  have e := hfa.symm.trans (PySem.W.mg_of X G a16)
  cases e
  have F0 := fun_mk (st := sclause_of) l0 c0 k0
  have b0 := F0.binds (ps := ["literals"]) fun _ _ _ _ _ _ us hl => match us, hl with | [_], _ => rfl
  have Cclause_of : Callee K mg "clause_of" f0 _ ["literals"] := ⟨PySem.W.mg_of X G a0, k0, b0⟩
  have F1 := fun_mk (st := sowner_of) l1 c1 k1
  have b1 := F1.binds (ps := ["sentence", "letter"]) fun _ _ _ _ _ _ us hl => match us, hl with | [_, _], _ => rfl
  have Cowner_of : Callee K mg "owner_of" f1 _ ["sentence", "letter"] := ⟨PySem.W.mg_of X G a1, k1, b1⟩
  have F2 := fun_mk (st := sless) l2 c2 k2
  have b2 := F2.binds (ps := ["sentence", "places"]) fun _ _ _ _ _ _ us hl => match us, hl with | [_, _], _ => rfl
  have Cless : Callee K mg "less" f2 _ ["sentence", "places"] := ⟨PySem.W.mg_of X G a2, k2, b2⟩
  have F3 := fun_mk (st := s_law_deck) l3 c3 k3
  have b3 := F3.binds (ps := ["script"]) fun _ _ _ _ _ _ us hl => match us, hl with | [_], _ => rfl
  have C_law_deck : Callee K mg "_law_deck" f3 _ ["script"] := ⟨PySem.W.mg_of X G a3, k3, b3⟩
  have F4 := fun_mk (st := s_law_draw) l4 c4 k4
  have b4 := F4.binds (ps := ["deck", "many"]) fun _ _ _ _ _ _ us hl => match us, hl with | [_, _], _ => rfl
  have C_law_draw : Callee K mg "_law_draw" f4 _ ["deck", "many"] := ⟨PySem.W.mg_of X G a4, k4, b4⟩
  have F5 := fun_mk (st := s_law_pick) l5 c5 k5
  have b5 := F5.binds (ps := ["deck", "items"]) fun _ _ _ _ _ _ us hl => match us, hl with | [_, _], _ => rfl
  have C_law_pick : Callee K mg "_law_pick" f5 _ ["deck", "items"] := ⟨PySem.W.mg_of X G a5, k5, b5⟩
  have F6 := fun_mk (st := s_law_mixed) l6 c6 k6
  have b6 := F6.binds (ps := ["deck", "items"]) fun _ _ _ _ _ _ us hl => match us, hl with | [_, _], _ => rfl
  have C_law_mixed : Callee K mg "_law_mixed" f6 _ ["deck", "items"] := ⟨PySem.W.mg_of X G a6, k6, b6⟩
  have F7 := fun_mk (st := s_law_owners) l7 c7 k7
  have b7 := F7.binds (ps := ["deck", "n"]) fun _ _ _ _ _ _ us hl => match us, hl with | [_, _], _ => rfl
  have C_law_owners : Callee K mg "_law_owners" f7 _ ["deck", "n"] := ⟨PySem.W.mg_of X G a7, k7, b7⟩
  have F8 := fun_mk (st := s_law_clause) l8 c8 k8
  have b8 := F8.binds (ps := ["deck", "n", "most"]) fun _ _ _ _ _ _ us hl => match us, hl with | [_, _, _], _ => rfl
  have C_law_clause : Callee K mg "_law_clause" f8 _ ["deck", "n", "most"] := ⟨PySem.W.mg_of X G a8, k8, b8⟩
  have F9 := fun_mk (st := s_law_unlike) l9 c9 k9
  have b9 := F9.binds (ps := ["rows"]) fun _ _ _ _ _ _ us hl => match us, hl with | [_], _ => rfl
  have C_law_unlike : Callee K mg "_law_unlike" f9 _ ["rows"] := ⟨PySem.W.mg_of X G a9, k9, b9⟩
  have F10 := fun_mk (st := s_law_sentence) l10 c10 k10
  have b10 := F10.binds (ps := ["deck", "n", "many", "most"]) fun _ _ _ _ _ _ us hl => match us, hl with | [_, _, _, _], _ => rfl
  have C_law_sentence : Callee K mg "_law_sentence" f10 _ ["deck", "n", "many", "most"] := ⟨PySem.W.mg_of X G a10, k10, b10⟩
  have F11 := fun_mk (st := s_law_great) l11 c11 k11
  have b11 := F11.binds (ps := ["deck"]) fun _ _ _ _ _ _ us hl => match us, hl with | [_], _ => rfl
  have C_law_great : Callee K mg "_law_great" f11 _ ["deck"] := ⟨PySem.W.mg_of X G a11, k11, b11⟩
  have F12 := fun_mk (st := s_law_heard) l12 c12 k12
  have b12 := F12.binds (ps := ["literals", "is_named"]) fun _ _ _ _ _ _ us hl => match us, hl with | [_, _], _ => rfl
  have C_law_heard : Callee K mg "_law_heard" f12 _ ["literals", "is_named"] := ⟨PySem.W.mg_of X G a12, k12, b12⟩
  have F13 := fun_mk (st := s_law_due) l13 c13 k13
  have b13 := F13.binds (ps := ["literals"]) fun _ _ _ _ _ _ us hl => match us, hl with | [_], _ => rfl
  have C_law_due : Callee K mg "_law_due" f13 _ ["literals"] := ⟨PySem.W.mg_of X G a13, k13, b13⟩
  have F14 := fun_mk (st := s_law_literals) l14 c14 k14
  have b14 := F14.binds (ps := ["deck"]) fun _ _ _ _ _ _ us hl => match us, hl with | [_], _ => rfl
  have C_law_literals : Callee K mg "_law_literals" f14 _ ["deck"] := ⟨PySem.W.mg_of X G a14, k14, b14⟩
  have F15 := fun_mk (st := s_law_is_less) l15 c15 k15
  have b15 := F15.binds (ps := ["deck", "owners", "rows"]) fun _ _ _ _ _ _ us hl => match us, hl with | [_, _, _], _ => rfl
  have C_law_is_less : Callee K mg "_law_is_less" f15 _ ["deck", "owners", "rows"] := ⟨PySem.W.mg_of X G a15, k15, b15⟩
  have F16 := fun_mk (st := slaw) l16 c16 k16
  have T : Bl mg := ⟨PySem.W.mg_none_of X G z0, PySem.W.mg_none_of X G z1, PySem.W.mg_none_of X G z2, PySem.W.mg_none_of X G z3, PySem.W.mg_none_of X G z4, PySem.W.mg_none_of X G z5, PySem.W.mg_none_of X G z6, PySem.W.mg_none_of X G z7, PySem.W.mg_none_of X G z8, PySem.W.mg_none_of X G z9, PySem.W.mg_none_of X G z10, PySem.W.mg_none_of X G z11, PySem.W.mg_none_of X G z12, PySem.W.mg_none_of X G z13, PySem.W.mg_none_of X G z14⟩
  have U : ExcF K mg "Unfit" C := ⟨PySem.W.mg_of X G aU, xe, xk, xb, xt⟩
  have UC : ExcC K C := ⟨u1, u2, xb, u4, u5, u6, u7, u8⟩
  have Kless : KwRev (PySem.W.fnOf "less" "less" (defArgs sless) (defBody sless) (defScope sless) .none kV2 dc2 pm2 an2 cd2 ct2) ["sentence", "places"] := fun s ws hw => match ws, hw with | [_, _], _ => .of_eq rfl
  have Kowner_of : KwRev (PySem.W.fnOf "owner_of" "owner_of" (defArgs sowner_of) (defBody sowner_of) (defScope sowner_of) .none kV1 dc1 pm1 an1 cd1 ct1) ["sentence", "letter"] := fun s ws hw => match ws, hw with | [_, _], _ => .of_eq rfl
  have Kcl : ∀ (s : Shared) (ws : List Value), ws.length = 1 → BindsTo s (PySem.W.fnOf "clause_of" "clause_of" (defArgs sclause_of) (defBody sclause_of) (defScope sclause_of) .none kV0 dc0 pm0 an0 cd0 ct0) ⟨[], (["literals"] : List Str).zip ws⟩ ((["literals"] : List Str).zip ws.reverse) := fun s ws hw => match ws, hw with | [_], _ => .of_eq rfl
  refine ⟨PySem.W.fnOf "law" "law" (defArgs slaw) (defBody slaw) (defScope slaw) .none kV16 dc16 pm16 an16 cd16 ct16, fun s v => .of_eq rfl, fun base _ _ => ?_⟩
  have G_law_deck := ok_deck (P := l.prog) (w := w) (base := base) F3 T 
  have G_law_draw := ok_draw (P := l.prog) (w := w) (base := base) F4 T 
  have G_law_pick := ok_pick (P := l.prog) (w := w) (base := base) F5 T G_law_draw C_law_draw
  have G_law_mixed := ok_mixed (P := l.prog) (w := w) (base := base) F6 T G_law_draw C_law_draw
  have G_law_owners := ok_owners (P := l.prog) (w := w) (base := base) F7 T G_law_draw C_law_draw G_law_pick C_law_pick
  have G_law_clause := ok_clause (P := l.prog) (w := w) (base := base) F8 T G_law_draw C_law_draw G_law_pick C_law_pick G_law_mixed C_law_mixed
  have G_law_unlike := ok_unlike (P := l.prog) (w := w) (base := base) F9 T 
  have G_law_sentence := ok_sentence (P := l.prog) (w := w) (base := base) F10 T G_law_draw C_law_draw G_law_owners C_law_owners G_law_clause C_law_clause G_law_unlike C_law_unlike
  have G_law_great := ok_great (P := l.prog) (w := w) (base := base) F11 T G_law_draw C_law_draw G_law_pick C_law_pick G_law_owners C_law_owners G_law_unlike C_law_unlike
  have Gowner_of := ok_owner (P := l.prog) (w := w) (base := base) F1 T 
  have Gless := ok_less (P := l.prog) (w := w) (base := base) F2 T 
  have Gclause_of := ok_clause_of (P := l.prog) (w := w) (base := base) F0 T U
  have G_law_heard := ok_heard (P := l.prog) (w := w) (base := base) F12 T U UC (PySem.W.mg_of X G aG) (PySem.W.mg_none_of X G zV) (kit_up iG tG sG) (kit_ty sV) (exm_same xb iC xt sC) Gclause_of Cclause_of Kcl
  have G_law_due := ok_due (P := l.prog) (w := w) (base := base) F13 T 
  have G_law_literals := ok_literals (P := l.prog) (w := w) (base := base) F14 T G_law_draw C_law_draw G_law_pick C_law_pick G_law_mixed C_law_mixed
  have G_law_is_less := ok_is_less (P := l.prog) (w := w) (base := base) F15 T G_law_draw C_law_draw Gless Cless Kless
  exact ok_law F16 T G_law_deck C_law_deck G_law_draw C_law_draw G_law_mixed C_law_mixed G_law_literals C_law_literals G_law_due C_law_due G_law_heard C_law_heard G_law_sentence C_law_sentence G_law_great C_law_great Gowner_of Cowner_of Kowner_of G_law_is_less C_law_is_less
end KA
open PySem PySem.W PyProof.Rows
set_option Elab.async false
set_option linter.all false
set_option maxRecDepth 100000
set_option maxHeartbeats 0 in
theorem PySem.Challenge.cw_eachsome_k02_whole_clauses_owners_and_le_holds : PySem.Challenge.rw_eachsome_k02_whole_clauses_owners_and_le.Holds := by
  w_on; o_law; k_head; (case hw => w_witness2)
  k_fill
  refine Ea.walk_G (l := PySem.Challenge.rw_eachsome_k02_whole_clauses_owners_and_le) (n := 63) (k := 5) (x := "script") (sp := fun w => KA.spLaw _) rfl (by decide) rfl ⟨rfl, by decide, by decide⟩ (fun w h Y => PySem.W.kIn_of Y) ?F (fun _ _ a ns hl _ hS => ⟨a, ns, rfl, hS, hl, fun _ => rfl⟩)
  case F =>
    intro w mg fa h KX G hmg
    refine' KA.all_mk KX G hmg ?a0 ?l0 ?c0 ?k0 ?a1 ?l1 ?c1 ?k1 ?a2 ?l2 ?c2 ?k2 ?a3 ?l3 ?c3 ?k3 ?a4 ?l4 ?c4 ?k4 ?a5 ?l5 ?c5 ?k5 ?a6 ?l6 ?c6 ?k6 ?a7 ?l7 ?c7 ?k7 ?a8 ?l8 ?c8 ?k8 ?a9 ?l9 ?c9 ?k9 ?a10 ?l10 ?c10 ?k10 ?a11 ?l11 ?c11 ?k11 ?a12 ?l12 ?c12 ?k12 ?a13 ?l13 ?c13 ?k13 ?a14 ?l14 ?c14 ?k14 ?a15 ?l15 ?c15 ?k15 ?a16 ?l16 ?c16 ?k16 ?z0 ?z1 ?z2 ?z3 ?z4 ?z5 ?z6 ?z7 ?z8 ?z9 ?z10 ?z11 ?z12 ?z13 ?z14 ?aU ?aG ?xe ?xk ?xb ?xt ?u1 ?u2 ?u4 ?u5 ?u6 ?u7 ?u8 ?iC ?sC ?iG ?tG ?sG ?zV ?sV
    (case a0 => k_is)
    (case l0 => k_is)
    (case c0 => k_is)
    (case k0 => k_is)
    (case a1 => k_is)
    (case l1 => k_is)
    (case c1 => k_is)
    (case k1 => k_is)
    (case a2 => k_is)
    (case l2 => k_is)
    (case c2 => k_is)
    (case k2 => k_is)
    (case a3 => k_is)
    (case l3 => k_is)
    (case c3 => k_is)
    (case k3 => k_is)
    (case a4 => k_is)
    (case l4 => k_is)
    (case c4 => k_is)
    (case k4 => k_is)
    (case a5 => k_is)
    (case l5 => k_is)
    (case c5 => k_is)
    (case k5 => k_is)
    (case a6 => k_is)
    (case l6 => k_is)
    (case c6 => k_is)
    (case k6 => k_is)
    (case a7 => k_is)
    (case l7 => k_is)
    (case c7 => k_is)
    (case k7 => k_is)
    (case a8 => k_is)
    (case l8 => k_is)
    (case c8 => k_is)
    (case k8 => k_is)
    (case a9 => k_is)
    (case l9 => k_is)
    (case c9 => k_is)
    (case k9 => k_is)
    (case a10 => k_is)
    (case l10 => k_is)
    (case c10 => k_is)
    (case k10 => k_is)
    (case a11 => k_is)
    (case l11 => k_is)
    (case c11 => k_is)
    (case k11 => k_is)
    (case a12 => k_is)
    (case l12 => k_is)
    (case c12 => k_is)
    (case k12 => k_is)
    (case a13 => k_is)
    (case l13 => k_is)
    (case c13 => k_is)
    (case k13 => k_is)
    (case a14 => k_is)
    (case l14 => k_is)
    (case c14 => k_is)
    (case k14 => k_is)
    (case a15 => k_is)
    (case l15 => k_is)
    (case c15 => k_is)
    (case k15 => k_is)
    (case a16 => k_is)
    (case l16 => k_is)
    (case c16 => k_is)
    (case k16 => k_is)
    (case z0 => k_is)
    (case z1 => k_is)
    (case z2 => k_is)
    (case z3 => k_is)
    (case z4 => k_is)
    (case z5 => k_is)
    (case z6 => k_is)
    (case z7 => k_is)
    (case z8 => k_is)
    (case z9 => k_is)
    (case z10 => k_is)
    (case z11 => k_is)
    (case z12 => k_is)
    (case z13 => k_is)
    (case z14 => k_is)
    (case aU => k_is)
    (case aG => k_is)
    (case xe => k_exc)
    (case xk => k_is)
    (case xb => k_is)
    (case xt => k_is)
    (case u1 => k_is)
    (case u2 => k_is)
    (case u4 => k_is)
    (case u5 => k_is)
    (case u6 => k_is)
    (case u7 => k_is)
    (case u8 => k_is)
    (case iC => k_is)
    (case sC => k_is)
    (case iG => k_is)
    (case tG => k_is)
    (case sG => k_is)
    (case zV => k_is)
    (case sV => k_is)
