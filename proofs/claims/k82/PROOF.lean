import PyProof.Rows.All
import Wide.All
import OpenK.AllK
import Wide.FinOn
import HandS.ForMost
import HandS.HeadHook4
import HandS.Wide
import HandS.CallLocal
import HandS.Style
import HandS.Flow
import HandS.Head0
import HandS.Head1
import HandS.Head2
import HandS.HeadEnd
import HandS.EndBits
import HandS.ForExc
import HandS.ExcInit
import HandS.TryElse
import KE.KExcInit
import KE.KExcSuper
import HandS.IsInst
import HandS.StrMore
import KE.GoesNew
import KE.GoesMore
import HandS.Walk
import KE.KBits
import KE.BitLaws
import PyProof.Rows.BitMore
import HandS.Zip
import HandS.DictComp
import HandS.FStr
import HandS.Strs
import HandS.TryOnly
import HandS.Text
import KE.IntTextLaws
import HandS.ClsMeth
import HandS.TupMul
import KE.KDictPairs
import PyProof.FactsAll.tuple_2
import KE.KDictLaws
import PySem.Challenge.RW_trueimage_k82_memory_of_the_machine
set_option Elab.async false
set_option linter.all false
set_option maxRecDepth 100000
set_option maxHeartbeats 2000000
namespace My
open PySem PySem.Spec PyProof.Rows L2
/-! ### promises by the number of arguments -/
def sp1 (p : V → Hp → VK → XK → Prop) : Sp := fun vs H Q E => ∃ a, vs = [a] ∧ p a H Q E
def sp2 (p : V → V → Hp → VK → XK → Prop) : Sp := fun vs H Q E => ∃ a b, vs = [a, b] ∧ p a b H Q E
def sp3 (p : V → V → V → Hp → VK → XK → Prop) : Sp := fun vs H Q E => ∃ a b c, vs = [a, b, c] ∧ p a b c H Q E
def sp4 (p : V → V → V → V → Hp → VK → XK → Prop) : Sp := fun vs H Q E => ∃ a b c d, vs = [a, b, c, d] ∧ p a b c d H Q E
theorem len1 {p} (vs : List V) (H : Hp) (Q : VK) (E : XK) (h : sp1 p vs H Q E) : vs.length = 1 := by obtain ⟨a, rfl, _⟩ := h; rfl
theorem len2 {p} (vs : List V) (H : Hp) (Q : VK) (E : XK) (h : sp2 p vs H Q E) : vs.length = 2 := by obtain ⟨a, b, rfl, _⟩ := h; rfl
theorem len3 {p} (vs : List V) (H : Hp) (Q : VK) (E : XK) (h : sp3 p vs H Q E) : vs.length = 3 := by obtain ⟨a, b, c, rfl, _⟩ := h; rfl
theorem len4 {p} (vs : List V) (H : Hp) (Q : VK) (E : XK) (h : sp4 p vs H Q E) : vs.length = 4 := by obtain ⟨a, b, c, d, rfl, _⟩ := h; rfl
/-! ### a def of the text behind its name, a def that keeps its promise -/
structure Df (K : PySem.W.Frag) (mg : Str → Option Value) (x : Str) (st : Stmt) : Prop where
  ex : ∃ (f : Addr) (fd : FuncData), mg x = some (.ref f) ∧ FunD K x x (defArgs st) (defBody st) (defScope st) [] [] f fd
structure Gd (P : Program) (w : World) (K : PySem.W.Frag) (mg : Str → Option Value) (base : Heap) (CX : CXT) (k : Nat) (x : Str) (ps : List Str) (sp : Sp) : Prop where
  ex : ∃ (f : Addr) (fd : FuncData), mg x = some (.ref f) ∧ FnOk P w K mg base CX k f fd ps sp ∧ Binds K fd ps [] ∧ PySem.W.keepIn K (.ref f) = true ∧ ∃ oc od osl, K.lookup f = some ⟨oc, od, .func fd, osl⟩
section
variable {P : Program} {w : World} {K : PySem.W.Frag} {mg : Str → Option Value} {base : Heap}
theorem Gd.mono {CX : CXT} {j k : Nat} {x : Str} {ps : List Str} {sp : Sp} (h : Gd P w K mg base CX j x ps sp) (hk : j ≤ k) : Gd P w K mg base CX k x ps sp := by
  obtain ⟨f, fd, a, b, c, d, e⟩ := h.ex
  exact ⟨f, fd, a, b.mono hk, c, d, e⟩
/-- a def out of which no exception comes -/
theorem Df.ok {x : Str} {st : Stmt} {N ps : List Str} {k : Nat} {sp : Sp} (D : Df K mg x st) (S : FnScope N ps (defScope st)) (len : ∀ vs H Q E, sp vs H Q E → vs.length = ps.length)
    (hb : ∀ (kV doc pm : Value) (an : Option Addr) (cdv ct : Value) (us : List Value), us.length = ps.length → bindArgs (PySem.W.fnOf x x (defArgs st) (defBody st) (defScope st) .none kV doc pm an cdv ct) ⟨us, []⟩ = pure (ps.zip us))
    (hbody : ∀ (f : Addr) (cdv : Value) (A : Around) (outer : List Env) (s : Shared) (H : Hp) (vs : List V) (Q : VK) (E : XK), Room k (A.deeper (envOfC x (defScope st) s.heap.objs.size f cdv)) → sp vs H Q E →
      ∃ t, PSs (cxOf CX0 P w K mg base N x (defScope st) f cdv A outer s H E).nox (defBody st) t ∧ t { nx := fun _ H' => Q .non H', rt := Q } (start N vs) H) : Gd P w K mg base CX0 (k + 1) x ps sp := by
  obtain ⟨f, fd, hm, F⟩ := D.ex
  have lk : ∃ oc od osl, K.lookup f = some ⟨oc, od, .func fd, osl⟩ := by
    obtain ⟨oc, od, dV, kV, doc, pm, an, cdv, ct, osl, e, l, _⟩ := F.ex
    exact ⟨oc, od, osl, l⟩
  refine ⟨f, fd, hm, F.ok S len fun cdv A outer s H vs Q E hr h => ?_, F.bindsN hb, F.kp, lk⟩
  obtain ⟨t, h1, h2⟩ := hbody f cdv A outer s H vs Q E hr h
  exact ⟨t, h1.nox, h2⟩
end
section
variable {X : Cx} {CX : CXT} {k : Nat} {x : Str} {ps : List Str} {sp : Sp} {E : XK} {e : Expr} {es : List Expr} {t : TA} {p pos : Pos}
def tCallG (sp : Sp) (E : XK) (t : TA) : TE := fun σ H Q => t σ H fun vs H1 => sp vs H1 Q E
theorem pe_g (h : Gd X.prog X.w X.K X.mg X.base CX k x ps sp) (hr : Room k X.A) (hx : Passes CX X E) (ha : PA X (e :: es) t) (hg : Gl X x := by rfl) (hdb : (x == ("__debug__" : Str)) = false := by decide)
    (he : starEach (e :: es) X.env = (false, eval e X.env) :: starEach es X.env := by rfl) (hpl : (backTo pos (starEach es X.env)).any (·.1) = false := by rfl) : PE X (.Call (.Name x p) (e :: es) [] pos) (tCallG sp E t) := by
  obtain ⟨f, fd, hm, F, hb, hk, _⟩ := h.ex
  have z := pe_call (p := p) F hr hg hm hk hb .nil hx ha hdb he hpl
  refine ⟨fun pins s σ H Q I hw => z.run pins s σ H Q I ?_⟩
  have e0 : (fun (vs : List V) (H1 : Hp) => sp (vs ++ []) H1 Q E) = fun vs H1 => sp vs H1 Q E := by
    funext vs H1
    rw [List.append_nil]
  show t σ H (fun vs H1 => sp (vs ++ []) H1 Q E)
  rw [e0]
  exact hw
/-- the module's ints, texts -/
theorem pe_gint {i : Int} (h : ∃ t, X.mg x = some (.int i t)) (hg : Gl X x := by rfl) (hd : (x == ("__debug__" : Str)) = false := by decide) : PE X (.Name x pos) (tC (.int i)) := by
  obtain ⟨t, h⟩ := h
  exact pe_glob hg h ⟨_, rfl⟩ hd
theorem pe_gstr {z : Str} (h : ∃ t, X.mg x = some (.str z t)) (hg : Gl X x := by rfl) (hd : (x == ("__debug__" : Str)) = false := by decide) : PE X (.Name x pos) (tC (.str z)) := by
  obtain ⟨t, h⟩ := h
  exact pe_glob hg h ⟨_, rfl⟩ hd
theorem pe_gref {a : Addr} (h : X.mg x = some (.ref a)) (hg : Gl X x := by rfl) (hd : (x == ("__debug__" : Str)) = false := by decide) : PE X (.Name x pos) (tC (.ref a)) := pe_glob hg h rfl hd
end
end My

set_option maxHeartbeats 4000000
namespace Bt
open PySem PySem.W PySem.Calls PyProof.Rows
abbrev exB : List Value := [.type "Exception", .type "BaseException", .type "object"]
def plainExc (C t : Addr) (dd : Option Addr) : Obj := { cls := .ref C, dict := dd, data := .fields #[.ref t, .none, .none, .none, .bool false, .none] }
section
variable {prog : Program} {w : World} {A : Around} {R : Result → Shared → Prop} {hp : Heap} {g : Array GenState} {d : Drawn} {t : Nat} {os : OsState} {K : Frag} {C x : Addr} {name : Str} {tk : Tok} {v : Value}
/-- the first field of a raised thing: its dict is laid -/
theorem fld_first (X : K.In hp) {t0 : Addr} (hx : hp.get? x = some (plainExc C t0 none)) (hov : excOver K C exB = true) {cd : ClassData} (hcd : clsIn K C = some cd) (hh : cd.hasDict = true) (hno : findIn K (.ref C) name = some none)
    (hq : ∀ h' tk' dx, (∀ b o, b ≠ x → hp.get? b = some o → h'.get? b = some o) → hp.objs.size ≤ dx → dx ≠ x → h'.get? x = some (plainExc C t0 (some dx)) → h'.Ns1 dx (fun y => if y = name then some v else none) →
      R (.ok (.ret .none)) ⟨h', g, d, tk', os⟩) :
    codeAny (model prog w) A (.call (.builtin "object.__setattr__") ⟨[.ref x, .str name tk, v], []⟩) R ⟨hp, g, d, t, os⟩ := by
  have tak : takerIn K C name = some none := by unfold takerIn; rw [hno]; rfl
  have inst : InstAt hp x (plainExc C t0 none) C none := ⟨hx, rfl, rfl, trivial⟩
  have lc : Looks (model prog w) hp (classData C) cd := looks_clsIn X hcd
  have far : x ≠ hp.objs.size := Nat.ne_of_lt (Heap.lt_size hx)
  refine osa_openX (s := ⟨hp, g, d, t, os⟩) PySem.F.store_Exception X inst hov tak fun b => ?_
  obtain ⟨n1, n2, n3, n4, n5, n6, n7, n8, n9, n10, n11⟩ := cd
  dsimp only at hh
  subst hh
  show wpAny _ _ (Builtin.ObjectAttr.storeInOwnDict _ _ _ _ _ _) _ _ _
  unfold Builtin.ObjectAttr.storeInOwnDict Builtin.ObjectAttr.ownDictForStores
  repeat (first | with_reducible refine lc.at ?_ | with_reducible refine wpAny_loadPart_at hx ?_ | with_reducible refine HandSPX.store_in_new ?_ ?_ | wp_step)
  · exact ⟨_, #[], _, (Heap.get?_update_ne _ _ _ _ far.symm).trans (Heap.get?_push_at rfl rfl), rfl, (fun e he => absurd he (by simp)), fun _ => rfl⟩
  · intro h1 tk1 nsd same
    have hx1 : (hp.push { cls := .type "dict", data := .dict #[] }).get? x = some (plainExc C t0 none) := Heap.get?_push_of_some _ hx
    refine hq h1 tk1 hp.objs.size (fun b o hb ho => ?_) (Nat.le_refl _) far.symm ?_ nsd
    · have y := same.2 b (Nat.ne_of_lt (Heap.lt_size ho))
      rw [y, Heap.get?_update_ne _ _ _ _ hb]
      exact Heap.get?_push_of_some _ ho
    · have y := same.2 x far
      rw [y]
      exact Heap.get?_update_self _ hx1 rfl
/-- a further field -/
theorem fld_more (X : K.In hp) {t0 dx : Addr} {m0 : Str → Option Value} {nl : List Str} (hx : hp.get? x = some (plainExc C t0 (some dx))) (hns : hp.Ns1 dx m0) (hw : Within m0 nl) (hz : nl.length ≤ 1000) (hov : excOver K C exB = true) {cd : ClassData} (hcd : clsIn K C = some cd) (hh : cd.hasDict = true) (hno : findIn K (.ref C) name = some none)
    (hq : ∀ h' tk', (∀ b o, b ≠ dx → hp.get? b = some o → h'.get? b = some o) → h'.Ns1 dx (fun y => if y = name then some v else m0 y) → R (.ok (.ret .none)) ⟨h', g, d, tk', os⟩) :
    codeAny (model prog w) A (.call (.builtin "object.__setattr__") ⟨[.ref x, .str name tk, v], []⟩) R ⟨hp, g, d, t, os⟩ := by
  have tak : takerIn K C name = some none := by unfold takerIn; rw [hno]; rfl
  obtain ⟨oD, esD, epD, hoD, hdD, _⟩ := hns.count hw
  have inst : InstAt hp x (plainExc C t0 (some dx)) C (some oD) := ⟨hx, rfl, rfl, hoD⟩
  have lc : Looks (model prog w) hp (classData C) cd := looks_clsIn X hcd
  refine osa_openX (s := ⟨hp, g, d, t, os⟩) PySem.F.store_Exception X inst hov tak fun b => ?_
  obtain ⟨n1, n2, n3, n4, n5, n6, n7, n8, n9, n10, n11⟩ := cd
  dsimp only at hh
  subst hh
  show wpAny _ _ (Builtin.ObjectAttr.storeInOwnDict _ _ _ _ _ _) _ _ _
  unfold Builtin.ObjectAttr.storeInOwnDict Builtin.ObjectAttr.ownDictForStores
  repeat (first | with_reducible refine lc.at ?_ | with_reducible refine wpAny_loadPart_at hx ?_ | with_reducible refine PySem.OEX.store_in_old hns hw hz ?_ | wp_step)
  intro h1 tk1 nsd same
  exact hq h1 tk1 (fun b o hb ho => by rw [same.2 b hb]; exact ho) nsd
end
/-! ### BadText: what the written part says of it; its __init__ -/
def iA (p1 p2 p3 : Pos) : Arguments := { posonlyargs := [], args := [{ arg := "self", annotation := none, pos := p1 }, { arg := "line", annotation := none, pos := p2 }, { arg := "column", annotation := none, pos := p3 }], vararg := none, kwonlyargs := [], kw_defaults := [], kwarg := none, defaults := [] }
def iB (q1 q2 q3 q4 r1 r2 r3 r4 : Pos) : List Stmt := [.Assign [.Attribute (.Name "self" q1) "line" q2] (.Name "line" q3) q4, .Assign [.Attribute (.Name "self" r1) "column" r2] (.Name "column" r3) r4]
def iS : Scope := { kind := .function, names := [(PySem.Str.ofString "self", .local), (PySem.Str.ofString "line", .local), (PySem.Str.ofString "column", .local)], isGenerator := false, isCoroutine := false, more := [] }
structure BtTxt (K : Frag) (mg : Str → Option Value) (C fI : Addr) : Prop where
  gC : mg "BadText" = some (.ref C)
  exI : excInitIn K C exB "Exception.__new__" = true
  over : excOver K C exB = true
  cd : ∃ cd, clsIn K C = some cd ∧ cd.hasDict = true
  sa : findIn K (.ref C) "__setattr__" = some (some (.builtin "object.__setattr__"))
  ga : findIn K (.ref C) "__getattribute__" = some (some (.builtin "BaseException.__getattribute__"))
  gg : findIn K (.ref C) "__getattr__" = some none
  noL : findIn K (.ref C) "line" = some none
  noC : findIn K (.ref C) "column" = some none
  iC : findIn K (.ref C) "__init__" = some (some (.ref fI))
  tC : typeIn K (.ref fI) = some (.type "function")
  kC : keepIn K (.ref C) = true
  exC : subIn K (.ref C) (.type "BaseException") = some true
  tyC : typeIn K (.ref C) = some (.type "type")
  hdC : hasDictIn K C = true
  te : exmOne K (.ref C) (.ref C) = some true
  fn : ∃ (oc : Value) (od : Option Addr) (kV doc pm : Value) (an : Option Addr) (cdv ct : Value) (osl : Array (Option Value)) (p1 p2 p3 q1 q2 q3 q4 r1 r2 r3 r4 : Pos),
    K.lookup fI = some ⟨oc, od, .func (fnOf "__init__" "BadText.__init__" (iA p1 p2 p3) (iB q1 q2 q3 q4 r1 r2 r3 r4) iS .none kV doc pm an cdv ct), osl⟩ ∧ codeIn K cdv "BadText.__init__" = true
theorem one_size (v u : Value) : [v, u].length ≤ sizeLine := by
  rw [sizeLine_eq]
  exact (by decide : 2 ≤ 16777216)
theorem ldC {M : Model} {s : Shared} {name : Str} {scope : Scope} {L a : Addr} {cd : Value} {m : Str → Option Value} {x : Str} {pos : Pos} {v : Value} {Q : Value → Shared → Prop} {A : Around} {E : Value → Shared → Prop} (hn : s.heap.Ns L m) (hv : m x = some v) (h : Q v s)
    (hk : scope.kind = .function := by rfl) (hl : (envOfC name scope L a cd).kindOf x = some .local := by rfl) (hd : (x == ("__debug__" : Str)) = false := by decide) :
    wpAny M A (eval (.Name x pos) (envOfC name scope L a cd)) Q E s := wpAny_Name (wpAny_loadName_local hk hl hn hv h) hd
def two (l c : Value) : Str → Option Value := fun y => if y = "column" then some c else if y = "line" then some l else none
/-- what __init__ leaves of a fresh exception at x -/
structure InitEnd (h h' : Heap) (x C dx t1 : Addr) (l c : Value) : Prop where
  keep : ∀ b o, b ≠ x → h.get? b = some o → h'.get? b = some o
  obj : h'.get? x = some (plainExc C t1 (some dx))
  dbig : h.objs.size ≤ dx
  dne : dx ≠ x
  ns : h'.Ns1 dx (two l c)
/-- a made BadText -/
structure OwnMade (h h' : Heap) (e C d : Addr) (l c : Value) : Prop where
  keep : ∀ b o, h.get? b = some o → h'.get? b = some o
  new : h.objs.size ≤ e
  obj : ∃ oe vs, h'.get? e = some oe ∧ oe.cls = .ref C ∧ oe.dict = some d ∧ oe.data = .fields vs ∧ vs[1]? = some .none
  dbig : h.objs.size ≤ d
  dne : d ≠ e
  ns : h'.Ns1 d (two l c)
section
variable {prog : Program} {w : World} {A : Around} {E : Value → Shared → Prop} {R : Result → Shared → Prop} {s : Shared} {K : Frag} {mg : Str → Option Value} {C fI : Addr}
theorem bt_init (T : BtTxt K mg C fI) {x t0 : Addr} {l c : Value} (X : K.In s.heap) (hlim : s.heap.NoLimit) (hx : s.heap.get? x = some (plainExc C t0 none)) (hnx : K.lookup x = none) (hroom : A.depth < recursionLimit)
    (hq : ∀ h' tk dx, InitEnd s.heap h' x C dx t0 l c → R (.ok (.ret .none)) { s with heap := h', toks := tk }) :
    codeAny (model prog w) A (.call (.ref fI) ⟨[.ref x, l, c], []⟩) R s := by
  obtain ⟨oc, od, kV, doc, pm, an, cdv, ct, osl, p1, p2, p3, q1, q2, q3, q4, r1, r2, r3, r4, ho, hcd⟩ := T.fn
  obtain ⟨cd, hcl, hhd⟩ := T.cd
  refine Att.call_fn (binds := [("self", .ref x), ("line", l), ("column", c)]) X hlim ho hcd hroom (BindsTo.of_eq (by first | rfl | with_unfolding_all rfl)) (by first | rfl | decide | with_unfolding_all rfl) (fun s₁ IC => ?_) rfl rfl rfl
  obtain ⟨h₁, tk₁, rfl⟩ := IC.toInCall.same
  have k : ∀ b o, s.heap.get? b = some o → h₁.get? b = some o := IC.toInCall.keep
  have hn := IC.toInCall.ns
  have hLx : s.heap.objs.size ≠ x := Nat.ne_of_gt (Heap.lt_size hx)
  have X₁ : K.In h₁ := X.keeps k
  have hx₁ := k _ _ hx
  have z : s.heap.objs.size < h₁.objs.size := hn.lt
  -- self.line = line
  show wpAny _ _ (execs _ _) _ _ _
  refine wpAny_execs_cons (plainObj_wpAny_Assign_Attribute ?_)
  refine ldC (v := l) hn (by first | rfl | with_unfolding_all rfl | kernel_rfl) (ldC (v := .ref x) hn (by first | rfl | with_unfolding_all rfl | kernel_rfl) ?_)
  refine set_plain X₁ (ox := plainExc C t0 none) (od := none) ⟨hx₁, rfl, rfl, trivial⟩ T.sa ?_
  refine fld_first X₁ hx₁ T.over hcl hhd T.noL (fun h₂ tk₂ dx k₂ dn dne hx₂ hn₂ => ?_)
  have X₂ : K.In h₂ := fun b o e => k₂ b o (fun q => by rw [q, hnx] at e; cases e) (X₁ b o e)
  have hnL := hn.at (h' := h₂) (fun o e => k₂ _ _ hLx e)
  obtain ⟨oD, hoD⟩ : ∃ o, h₂.get? dx = some o := by
    obtain ⟨o, _, _, e, _⟩ := hn₂
    exact ⟨o, e⟩
  -- self.column = column
  show wpAny _ _ (execs _ _) _ _ _
  refine wpAny_execs_cons (plainObj_wpAny_Assign_Attribute ?_)
  refine ldC (v := c) hnL (by first | rfl | with_unfolding_all rfl | kernel_rfl) (ldC (v := .ref x) hnL (by first | rfl | with_unfolding_all rfl | kernel_rfl) ?_)
  refine set_plain X₂ (ox := plainExc C t0 (some dx)) (od := some oD) ⟨hx₂, rfl, rfl, hoD⟩ T.sa ?_
  have wi : Within (fun y => if y = ("line" : Str) then some l else none) [("line" : Str)] := Within.cons _ _ Within.nil
  refine fld_more X₂ hx₂ hn₂ wi (by decide) T.over hcl hhd T.noC (fun h₃ tk₃ k₃ hn₃ => ?_)
  show wpAny _ _ (execs _ _) _ _ _
  refine wpAny_execs_nil (hq h₃ tk₃ dx ⟨fun b o hb e => k₃ b o (fun q => ?_) (k₂ b o hb (k b o e)), k₃ x _ dne.symm hx₂, Nat.le_of_lt (Nat.lt_of_lt_of_le z dn), dne, hn₃⟩)
  subst q
  exact absurd (Nat.lt_of_lt_of_le (Heap.lt_size (k _ _ e)) dn) (Nat.lt_irrefl _)
theorem bt_made (T : BtTxt K mg C fI) {l c : Value} (X : K.In s.heap) (hlim : s.heap.NoLimit) (hroom : A.depth + 1 < recursionLimit)
    (hq : ∀ h' tk e d, OwnMade s.heap h' e C d l c → R (.ok (.ret (.ref e))) { s with heap := h', toks := tk }) :
    codeAny (model prog w) A (.call (.ref C) ⟨[l, c], []⟩) R s := by
  obtain ⟨nm, N, q, bs, bm, hdct, sn, sub, ab, col, dd, k0, k1, k2, k3, k5, hC, hT⟩ := excInit_of X T.exI
  obtain ⟨hp, g, dr, tk, os⟩ := s
  have k : ∀ b o, hp.get? b = some o → ((hp.push (kdv_tup [l, c])).push (HandSPX.excO C hp.objs.size)).get? b = some o := fun b o e => Heap.get?_push_of_some _ (Heap.get?_push_of_some _ e)
  have hget : ((hp.push (kdv_tup [l, c])).push (HandSPX.excO C hp.objs.size)).get? (hp.objs.size + 1) = some (HandSPX.excO C hp.objs.size) := by heap_get
  have hnx : K.lookup (hp.objs.size + 1) = none := by
    cases e : K.lookup (hp.objs.size + 1) with
    | none => rfl
    | some o =>
      have z : hp.get? (hp.objs.size + 1) = some o := X _ _ e
      exact absurd (Nat.lt_of_succ_lt (Heap.lt_size z)) (Nat.lt_irrefl _)
  refine HandSPX.call_own PySem.F.excBase_Exception hT hC (looks_findIn X T.iC) (fun self => bind_fn X self T.tC) (one_size l c) ?_
  refine bt_init (s := ⟨(hp.push (kdv_tup [l, c])).push (HandSPX.excO C hp.objs.size), g, dr, tk, os⟩) T (X.keeps k) (hlim.keeps k) hget hnx ?_ fun h' tk' dx ⟨k', hx, dn, dne, hns⟩ => ?_
  · show A.depth + 1 < recursionLimit
    exact hroom
  · have old : ∀ b o, hp.get? b = some o → h'.get? b = some o := fun b o e => k' b o (Nat.ne_of_lt (Nat.lt_succ_of_lt (Heap.lt_size e))) (k b o e)
    have z : hp.objs.size + 1 + 1 ≤ dx := by
      first
        | (simpa only [Heap.size_push] using dn)
        | exact dn
        | (have q := dn; rw [Heap.size_push, Heap.size_push] at q; exact q)
    exact ⟨rfl, hq h' tk' (hp.objs.size + 1) dx ⟨old, Nat.le_succ _, ⟨_, _, hx, rfl, rfl, rfl, rfl⟩, Nat.le_trans (Nat.le_trans (Nat.le_succ _) (Nat.le_succ _)) z, dne, hns⟩⟩
end
end Bt
namespace L2
open PySem PySem.Spec PyProof.Rows
def btFs (v u : V) : List (Str × V) := [("column", u), ("line", v)]
theorem bt_line (v u : V) : (btFs v u).lookup ("line" : Str) = some v := by
  have q : (("line" : Str) == ("column" : Str)) = false := by decide +kernel
  unfold btFs
  simp only [List.lookup, q, beq_self_eq_true]
theorem bt_col (v u : V) : (btFs v u).lookup ("column" : Str) = some u := by
  unfold btFs
  simp only [List.lookup, beq_self_eq_true]
theorem bt_rel {v u : V} {v' u' : Value} (r1 : RelV v v') (r2 : RelV u u') (f : Str) : RelO ((btFs v u).lookup f) (Bt.two v' u' f) := by
  unfold Bt.two btFs
  by_cases hc : f = "column"
  · subst hc
    rw [if_pos rfl]
    have q : List.lookup ("column" : Str) [(("column" : Str), u), (("line" : Str), v)] = some u := by simp [List.lookup]
    rw [q]
    exact r2
  · rw [if_neg hc]
    have qc : (f == ("column" : Str)) = false := by simpa using hc
    by_cases hl : f = "line"
    · subst hl
      rw [if_pos rfl]
      have q : List.lookup ("line" : Str) [(("column" : Str), u), (("line" : Str), v)] = some v := by
        simp only [List.lookup, qc]
        simp
      rw [q]
      exact r1
    · rw [if_neg hl]
      have ql : (f == ("line" : Str)) = false := by simpa using hl
      have q : List.lookup f [(("column" : Str), u), (("line" : Str), v)] = none := by
        simp only [List.lookup, qc, ql]
      rw [q]
      trivial
section
variable {X : Cx} {C fI : Addr}
/-- BadText(e, e') -/
def tMkBt (C : Addr) (ta : TA) : St → Hp → XK → Prop := fun σ H Q => ta σ H fun vs H1 => ∃ v u, vs = [v, u] ∧ ∀ d, H1 d = none → Q (.ref C) (some d) (upd H1 d (.xd (btFs v u)))
theorem pmk_bt {a b : Expr} {ta : TA} {p pos : Pos} {k : Nat} (T : Bt.BtTxt X.K X.mg C fI) (hr : Room k X.A) (ha : PA X [a, b] ta) (hg : Gl X "BadText" := by rfl)
    (he : starEach (a :: [b]) X.env = (false, eval a X.env) :: starEach [b] X.env := by rfl) (hpl : (backTo pos (starEach [b] X.env)).any (·.1) = false := by rfl) :
    PMk X (.Call (.Name "BadText" p) [a, b] [] pos) (tMkBt C ta) := by
  intro pins s σ H Q I h
  refine wpAny_Call_Name_kw (ld_glob I hg T.gC ?_)
  refine PySem.W.callWith_K (h₀ := X.base) I.ok.mod.kin T.kC (thn (ha.run pos pins s σ H _ I h) fun us s1 hh => ?_) he hpl
  obtain ⟨vs, H1, I1, r1, v, u, ev, q1⟩ := hh
  subst ev
  refine ⟨I1.kIn, ?_⟩
  obtain ⟨v', u', rfl, rv, ru⟩ := Vals.two r1
  show wpAny _ _ (call (.ref C) [v', u']) _ _ _
  have hlim := I1.nolimit
  obtain ⟨hp, g, dr, tk, os⟩ := s1
  refine wpAny_call (Bt.bt_made T I1.kIn hlim (by have := hr.dp; omega) fun h' tk' e d M => ?_)
  show MkP X pins σ Q (.ref e) ⟨h', g, dr, tk', os⟩
  obtain ⟨oe, fv, hoe, hc, hd, hdat, h1⟩ := M.obj
  have hns := M.ns
  obtain ⟨G', g1, g2⟩ := restrict h' fun b => decide (b ≠ e)
  have gk : ∀ b, b ≠ e → G'.get? b = h'.get? b := fun b hb => g1 b (decide_eq_true hb)
  have ge : G'.get? e = none := g2 e (by simp)
  have old : ∀ b o, hp.get? b = some o → G'.get? b = some o := fun b o q => (gk b (Nat.ne_of_lt (Nat.lt_of_lt_of_le (Heap.lt_size q) M.new))).trans (M.keep b o q)
  have ob : ObjOk X.prog X.w (upd H1 d (.xd (btFs v u))) G' d (.xd (btFs v u)) :=
    ⟨_, hns.at (fun o q => (gk d M.dne).trans q), fun f => bt_rel rv ru f⟩
  have J : Inv X pins σ (upd H1 d (.xd (btFs v u))) ⟨G', g, dr, tk', os⟩ := I1.laid (t' := tk') old M.dbig ob
  refine ⟨e, oe, fv, ⟨G', g, dr, tk', os⟩, _, .ref C, some d, rfl, J, fun b o q => ?_, ge, hoe, ⟨hc, hd⟩, hdat, h1, ?_, rfl, I1.bare, raises_own T.exC T.tyC, q1 d (I1.hok.fresh M.dbig)⟩
  · by_cases hb : b = e
    · have q' : G'.get? b = some o := q
      rw [hb, ge] at q'; cases q'
    · exact (gk b hb).symm.trans q
  · rw [upd_ne (Ne.symm M.dne)]
    exact I1.hok.fresh M.new
/-- raise BadText(e, e') -/
def tRaiseBt (C : Addr) (W : WX) (ta : TA) : TS := fun _ σ H => tMkBt C ta σ H fun cls d H' => W cls d σ H'
theorem ps_raiseBt {a b : Expr} {ta : TA} {W : WX} {p pos pos2 : Pos} {k : Nat} (hc : X.calm = true) (T : Bt.BtTxt X.K X.mg C fI) (hr : Room k X.A) (tk : Takes X W) (ha : PA X [a, b] ta) (hg : Gl X "BadText" := by rfl)
    (he : starEach (a :: [b]) X.env = (false, eval a X.env) :: starEach [b] X.env := by rfl) (hpl : (backTo pos (starEach [b] X.env)).any (·.1) = false := by rfl) :
    PS X (.Raise (some (.Call (.Name "BadText" p) [a, b] [] pos)) none pos2) (tRaiseBt C W ta) := ps_raise hc tk (pmk_bt T hr ha hg he hpl)
/-- error.line, error.column, error the exception that the suite holds (at a; its class cls, its dict d) -/
def tFldBt (C : Addr) (f : Str) (a : Addr) (cls : Value) (d : Option Addr) (te : TE) : TE := fun σ H Q => te σ H fun x H1 => x = .ref a ∧ cls = .ref C ∧ ∃ (dd : Addr) (fs : List (Str × V)) (v : V), d = some dd ∧ H1 dd = some (.xd fs) ∧ fs.lookup f = some v ∧ Q v H1
theorem pe_fldBt {f : Str} {a : Addr} {oe : Obj} {cls : Value} {d : Option Addr} {pn : List (Addr × Obj)} {e : Expr} {te : TE} {pos : Pos} (T : Bt.BtTxt X.K X.mg C fI) (hn : PySem.W.findIn X.K (.ref C) f = some none) (hz : Zc cls d oe) (hf : ∃ vs, oe.data = .fields vs) (he : PE (X.suite a ((a, oe) :: pn)) e te)
    (hb : attributeBase e f X.env (eval e X.env) = eval e X.env := by rfl) :
    PE (X.suite a ((a, oe) :: pn)) (.Attribute e f pos) (tFldBt C f a cls d te) := by
  refine ⟨fun pins s σ H Q I h => ?_⟩
  refine attr_of hb (thn (he.run pins s σ H _ I h) fun u s1 hh => ?_)
  obtain ⟨x, H1, I1, rx, ex, ec, dd, fs, v, ed, ea, l, q⟩ := hh
  subst ex
  obtain rfl : u = Value.ref a := rx
  subst ec
  subst ed
  obtain ⟨ha, _⟩ := I1.pin (a, oe) (List.mem_append_left _ List.mem_cons_self)
  obtain ⟨vs, hd⟩ := hf
  have hx : ObjOk X.prog X.w H1 s1.heap dd (.xd fs) := I1.hok dd _ ea
  obtain ⟨mA, hns, hr⟩ := hx
  obtain ⟨od, ho, hl⟩ := lookIn_ns hns
  obtain ⟨u, hu, ru⟩ := RelO.some_of (v := v) (o := mA f) (by rw [← l]; exact hr f)
  have J : PySem.W.InstAt s1.heap a oe C (some od) := ⟨ha, hz.1, by unfold PySem.W.notCls; rw [hd] <;> rfl, by rw [hz.2]; exact ho⟩
  exact HandSPX.exc_get I1.kIn J T.ga T.gg T.exC (PySem.W.findObj_own T.hdC hn rfl (by rw [hl, hu])) (handed_of ru) ⟨v, H1, I1.tok _, ru, q⟩
end
end L2

namespace L2
open PySem PySem.Spec PyProof.Rows
section
variable {X : Cx} {x n : Str} {c : Value} {i : Nat} {body suite orelse : List Stmt} {b₀ : Stmt} {np pos pos' : Pos} {tb : WX → TS} {ts : Addr → Value → Option Addr → TS} {u : TS}
theorem Inv.thin {pins : List (Addr × Obj)} {σ σ' : St} {H : Hp} {s : Shared} (I : Inv X pins σ H s) (hl : σ'.length = X.N.length) (h : ∀ (j : Nat) (v : V), σ'[j]? = some (some v) → σ[j]? = some (some v)) : Inv X pins σ' H s := by
  obtain ⟨m, hn, hlk⟩ := I.loc
  exact { I with loc := ⟨m, hn, fun j x v e1 e2 e3 => hlk j x v e1 (h j v e2) e3⟩, len := hl }
theorem only_set {n i : Nat} {σ : St} {w : V} (hi : i < σ.length) : ∀ (j : Nat) (v : V), ((List.replicate n (none : Option V)).set i (some w))[j]? = some (some v) → (σ.set i (some w))[j]? = some (some v) := by
  intro j v e
  rw [List.getElem?_set] at e ⊢
  by_cases c : i = j
  · subst c
    rw [if_pos rfl] at e ⊢
    rw [if_pos hi]
    split at e
    · exact e
    · cases e
  · rw [if_neg c] at e
    rw [List.getElem?_replicate] at e
    split at e
    · cases e
    · cases e
/-- what the clause wishes of what the body lets out: it is the clause's own, and the suite returns -/
def wGot (K : PySem.W.Frag) (n : Nat) (c : Value) (i : Nat) (ts : Addr → Value → Option Addr → TS) (D : Ends) : WX := fun cls d _ H =>
  PySem.W.exmOne K cls c = some true ∧ ∀ a, H a = none → ts a cls d { nx := fun _ _ => False, rt := D.rt } ((List.replicate n none).set i (some (.ref a))) H
/-- try: body / except x as n: a suite that returns / else: orelse -/
theorem ps_try_got (ho : PSs X orelse u) (stk : X.stack = X.env :: X.outer) (frm : X.env.frame = some X.env.locals) (nd : X.N.Nodup) (at_ : X.N[i]? = some n) (lo : X.env.kindOf n = some .local) (nm : Names X x c)
    (hb : ∀ (W : WX) (pn : List (Addr × Obj)) (xe : Value → Shared → Prop), Takes (X.tr pn xe) W → PassesOwn (model X.prog X.w) X.A X.env xe → PSs (X.tr pn xe) body (tb W))
    (hsu : ∀ (a : Addr) (oe : Obj) (cls : Value) (d : Option Addr) (pn : List (Addr × Obj)), Zc cls d oe → (∃ vs, oe.data = .fields vs) → PSs (X.suite a ((a, oe) :: pn)) (b₀ :: suite) (ts a cls d)) :
    PS X (.Try body [.ExceptHandler (some (.Name x np)) (some n) (b₀ :: suite) pos'] orelse [] pos) (fun D σ H => tb (wGot X.K X.N.length c i ts D) { D with nx := u D } σ H) := by
  refine ⟨fun ps s0 σ0 H0 D inv rd => wpAny_Try_except ?_⟩
  have xok := inv.ok
  have afr : X.A.frames = some (X.env :: X.outer) := xok.frames.trans (congrArg some stk)
  have run := hb (wGot X.K X.N.length c i ts D) (X.pn ++ ps) (fun e s₁ => wpAny (model X.prog X.w) X.A (noteFrame e X.env) (fun _ s₂ => wpAny (model X.prog X.w) X.A (setFlight e none)
    (fun _ s₃ => wpAny (model X.prog X.w) X.A (handleBy e X.env [.ExceptHandler (some (.Name x np)) (some n) (b₀ :: suite) pos']) (SP X ps D) X.xe s₃) X.xe s₂) X.xe s₁) ?caught PassesOwn.looking
  case caught =>
    rintro ex t ⟨a, B, sI, ps', σ1, H1, cls, d, rfl, Jt, stays, upto, air, fresh, eos, gens, em, rds⟩
    have J1 : Inv X ps σ1 H1 sI := Jt.ofTry xok
    refine Sky.land Zc.steady afr frm (stk ▸ air) fun g1 f1 u1 => ?_
    have K1 : Inv X ps σ1 H1 { t with heap := g1 } := J1.landed stays f1.1 (upto.trans u1) eos gens
    obtain ⟨o1, w1, e1, z1, d1⟩ := f1.there
    have outOf : a ∉ frs (X.env :: X.outer) := by
      intro m
      obtain ⟨_, o', e', no⟩ := f1.2.2.1.mem m
      rw [e1] at e'
      cases e'
      exact no _ d1
    have aL : a ≠ X.env.locals := by
      intro z
      exact outOf (List.mem_filterMap.mpr ⟨X.env, List.mem_cons_self, by rw [frm, z]⟩)
    have aF : a ∉ X.fs := by
      intro m
      obtain ⟨e, he, q⟩ := List.mem_filterMap.mp m
      exact outOf (List.mem_filterMap.mpr ⟨e, List.mem_cons_of_mem _ he, q⟩)
    have C1 := K1.suite e1 d1 fresh aL aF
    refine wpAny_handleBy_cons (codeAny_handlers_test ?_) (fun q => by cases q)
    have ty : PySem.W.Looks (model X.prog X.w) g1 (typeOf (.ref a)) cls := by
      intro A Q E s k q
      exact wpAny_typeOf_ref (k _ _ e1) (by rw [z1.1]; exact q)
    have mt := PySem.W.exm_one (M := model X.prog X.w) K1.kIn ty em
    have nme : wpAny (model X.prog X.w) (X.A.mark (some (.ref a))) (eval (.Name x np) X.env) (fun v s' => v = c ∧ s' = { t with heap := g1 }) (fun _ _ => False) { t with heap := g1 } := by
      obtain ⟨gl, nd', hm | ⟨hm, hv, hn⟩⟩ := nm
      · exact ld_glob (X := X.suite a ((a, o1) :: (X.pn ++ ps))) C1 gl hm ⟨rfl, rfl⟩ nd'
      · exact ld_blt (X := X.suite a ((a, o1) :: (X.pn ++ ps))) C1 gl hm hv ⟨rfl, rfl⟩ hn nd'
    refine wpAny_mono nme ?_ (fun _ _ z => z.elim)
    rintro v s' ⟨rfl, rfl⟩
    refine mt.here ?_
    refine codeAny_handlers_suite_as (HandSPX.lands_againZ f1 fun g2 f2 u2 => ?_)
    have K2 : Inv X ps σ1 H1 { t with heap := g2 } := J1.landed stays f2.1 ((upto.trans u1).trans u2) eos gens
    obtain ⟨o2, w2, e2, z2, d2⟩ := f2.there
    refine store_ok (X := X.suite a ((a, o2) :: (X.pn ++ ps))) (v := .ref a) (K2.suite e2 d2 fresh aL aF) nd at_ (.inl lo) rfl (fun s3 C3 => ?_) (.inr lo)
    have hiN : i < σ1.length := by
      rw [K1.len]
      exact (List.getElem?_eq_some_iff.mp at_).1
    refine wpAny_mono ((hsu a o2 cls d (X.pn ++ ps) z2 ⟨_, d2⟩).run [] s3 _ H1 _ (C3.thin (by rw [List.length_set, List.length_replicate]) (only_set hiN)) (rds a fresh)) (fun fl s4 sp => ?_) (fun _ _ z => z.elim)
    cases fl with
    | ret v4 =>
      obtain ⟨y, σ4, H4, C4, ry, q4⟩ := sp
      exact gone_ok (C4.unsuite xok) nd at_ lo fun s5 K5 => ⟨y, _, H4, K5, ry, q4⟩
    | next =>
      obtain ⟨_, _, _, q⟩ := sp
      exact q.elim
    | brk =>
      obtain ⟨_, _, _, q⟩ := sp
      exact q.elim
    | cont =>
      obtain ⟨_, _, _, q⟩ := sp
      exact q.elim
  refine wpAny_mono (run.run [] s0 σ0 H0 { D with nx := u D } (inv.toTry _) rd) (fun fl s1 sp => ?_) (fun _ _ z => z)
  cases fl with
  | next =>
    obtain ⟨σ1, H1, J1, q1⟩ := sp
    exact ho.run ps s1 σ1 H1 D (J1.ofTry xok) q1
  | ret v =>
    obtain ⟨y, σ1, H1, J1, ry, q1⟩ := sp
    exact ⟨y, σ1, H1, J1.ofTry xok, ry, q1⟩
  | brk =>
    obtain ⟨σ1, H1, J1, q1⟩ := sp
    exact ⟨σ1, H1, J1.ofTry xok, q1⟩
  | cont =>
    obtain ⟨σ1, H1, J1, q1⟩ := sp
    exact ⟨σ1, H1, J1.ofTry xok, q1⟩
end
end L2

/-! The reader as plain functions of the rest of the pieces. A piece: its sort's number, its line, its column. -/
namespace Mir
abbrev Pc := Nat × Nat × Nat
inductive Rs (α : Type) where
  | ok (a : α)
  | bad (l k : Nat)
  | out
def Rs.bind {α β : Type} : Rs α → (α → Rs β) → Rs β
  | .ok a, f => f a
  | .bad l k, _ => .bad l k
  | .out, _ => .out
instance : Monad Rs where
  pure := .ok
  bind := Rs.bind
def Post {α : Type} (m : Rs α) (good : α → Prop) (ill : Nat → Nat → Prop) : Prop := match m with
  | .ok a => good a
  | .bad l k => ill l k
  | .out => False
theorem post_bind {α β : Type} {m : Rs α} {f : α → Rs β} {good : β → Prop} {ill : Nat → Nat → Prop} (h : Post (m >>= f) good ill) : Post m (fun a => Post (f a) good ill) ill := by
  cases m with
  | ok a => exact h
  | bad l k => exact h
  | out => exact h
theorem post_mono {α : Type} {m : Rs α} {g g' : α → Prop} {i i' : Nat → Nat → Prop} (h : Post m g i) (hg : ∀ a, g a → g' a) (hi : ∀ l k, i l k → i' l k) : Post m g' i' := by
  cases m with
  | ok a => exact hg a h
  | bad l k => exact hi l k h
  | out => exact h
/-- the next piece's sort (0 at the end) -/
def hd (r : List Pc) : Nat := match r with
  | (c, _, _) :: _ => c
  | [] => 0
/-- the next piece is wrong -/
def ill {α : Type} (r : List Pc) : Rs α := match r with
  | (_, l, k) :: _ => .bad l k
  | [] => .out
def want (s : Nat) (r : List Pc) : Rs (List Pc) := if hd r = s then .ok r.tail else ill r
/-- sorts by numbers -/
def sorts : List String := ["end", "name", "number", "wrong", "module", "use", "struct", "int", "uint", "void", "if", "else", "while", "do", "for", "break", "continue", "switch", "case", "default", "return", "out", "assert", "in", "more", "length", "mod",
  "<<", ">>", "<=", ">=", "==", "!=", "&&", "||", "+", "-", "*", "/", "&", "|", "^", "~", "!", "<", ">", "=", "?", ":", ";", ",", ".", "(", ")", "[", "]", "{", "}"]
def strn (c : Nat) : Nat := match c with
  | 34 => 1 | 33 => 2 | 40 => 3 | 41 => 4 | 39 => 5 | 31 => 6 | 32 => 6 | 44 => 7 | 29 => 7 | 45 => 7 | 30 => 7 | 27 => 8 | 28 => 8 | 35 => 9 | 36 => 9 | 37 => 10 | 38 => 10 | 26 => 10
  | _ => 0
/-! ### expressions. What is held: 0 one sign, 1 two, 2 a call, 3 a bracket, 4 an index, 5 a choice's middle, 6 its last part; with the strength -/
structure Es where
  r : List Pc
  n : Nat
  d : Int
  h : List (Nat × Nat)
  b : Bool
def counted (s : Es) : Rs Es := if 120 ≤ s.n then ill s.r else .ok { s with r := s.r.tail, n := s.n + 1 }
def take1 (s : Es) : Es := { s with r := s.r.tail, n := s.n + 1 }
def wantE (c : Nat) (s : Es) : Rs Es := if hd s.r = c then .ok (take1 s) else ill s.r
def within (t : Nat) (s : Es) : Rs Es := if 30 < s.d + 1 then ill s.r else .ok { s with d := s.d + 1, h := (t, 0) :: s.h }
/-- one piece that begins: whole or not -/
def begin1 (s : Es) : Rs (Bool × Es) := match hd s.r with
  | 2 => do let s ← counted s; pure (true, { s with b := false })
  | 1 => do
    let s ← counted s
    if hd s.r = 52 then
      let s := take1 s
      if hd s.r = 53 then pure (true, { take1 s with b := true })
      else do let s ← within 2 s; pure (false, s)
    else pure (true, { s with b := false })
  | 52 => do let s ← counted s; let s ← within 3 s; pure (false, s)
  | _ => do let s ← counted s; let s ← wantE 52 s; let s ← wantE 53 s; pure (true, { s with b := false })
def isAhead (c : Nat) : Bool := c == 43 || c == 42 || c == 36
def isBegin (c : Nat) : Bool := c == 2 || c == 1 || c == 23 || c == 24 || c == 52
def operand : Nat → Es → Rs Es
  | 0, _ => .out
  | f + 1, s =>
    if isAhead (hd s.r) then operand f { take1 s with h := (0, 11) :: s.h }
    else if isBegin (hd s.r) then do
      let (w, s) ← begin1 s
      if w then pure s else operand f s
    else ill s.r
def settle (k : Nat) : List (Nat × Nat) → Bool → List (Nat × Nat) × Bool
  | [], b => ([], b)
  | (t, m) :: h, b => if k ≤ m then settle k h false else ((t, m) :: h, b)
def set1 (k : Nat) (s : Es) : Es := { s with h := (settle k s.h s.b).1, b := (settle k s.h s.b).2 }
def thirds : List (Nat × Nat) → Int → Bool → List (Nat × Nat) × Int × Bool
  | [], d, b => ([], d, b)
  | (t, m) :: h, d, b => if t = 6 then thirds h (d - 1) false else ((t, m) :: h, d, b)
def setAll (s : Es) : Es := let s1 := set1 1 s; let (h, d, b) := thirds s1.h s1.d s1.b; { s1 with h := h, d := d, b := b }
def closing (t : Nat) : Nat := match t with
  | 5 => 48 | 2 => 53 | 3 => 53 | _ => 55
def field (s : Es) : Rs Es := do
  let s ← counted s
  if hd s.r = 25 then pure { take1 s with b := false }
  else do let s ← wantE 1 s; pure { s with b := false }
def close (s : Es) : Rs (Bool × Es) := match s.h with
  | [] => .out
  | (t, m) :: h =>
    if t < 2 ∨ 5 < t then .out
    else if t = 5 ∧ hd s.r = 48 then pure (true, { take1 s with h := (6, 0) :: h })
    else if t = 2 ∧ hd s.r = 50 then pure (true, { take1 s with h := (2, 0) :: h })
    else do
      let s ← wantE (closing t) s
      pure (false, { s with d := s.d - 1, h := h, b := if t = 3 then s.b else t == 2 })
def behind : Nat → Es → Rs (Bool × Es)
  | 0, _ => .out
  | f + 1, s =>
    if hd s.r = 51 then do let s ← field s; behind f s
    else if hd s.r = 54 then do let s ← counted s; let s ← within 4 s; pure (true, s)
    else if strn (hd s.r) ≠ 0 then let q := set1 (strn (hd s.r)) s; pure (true, { take1 q with h := (1, strn (hd s.r)) :: q.h })
    else if hd s.r = 47 then do let s ← within 5 (take1 (set1 1 s)); pure (true, s)
    else
      let s := setAll s
      if s.h.isEmpty then pure (false, s)
      else do
        let (g, s) ← close s
        if g then pure (true, s) else behind f s
def turns : Nat → Es → Rs (Bool × List Pc)
  | 0, _ => .out
  | f + 1, s => do
    let s ← operand f s
    let (g, s) ← behind f s
    if g then turns f s else pure (s.b, s.r)
def expr (f : Nat) (d : Nat) (r : List Pc) : Rs (Bool × List Pc) := if 30 < d then ill r else turns f ⟨r, 0, (d : Int), [], false⟩
/-! ### statements -/
def isKind (c : Nat) : Bool := c == 7 || c == 8 || c == 6
def kind (r : List Pc) : Rs (List Pc) := if hd r = 6 then want 1 r.tail else pure r.tail
def many (r : List Pc) : Rs (List Pc) := if hd r = 54 then do let r ← want 2 r.tail; want 55 r else pure r
def more (f d : Nat) : Nat → List Pc → Rs (List Pc)
  | 0, _ => .out
  | g + 1, r => if hd r = 50 then do let (_, r) ← expr f d r.tail; more f d g r else pure r
def firsts (f d : Nat) (r : List Pc) : Rs (List Pc) :=
  if hd r = 46 then
    if hd r.tail = 56 then
      if hd r.tail.tail = 57 then want 57 r.tail.tail
      else do let (_, r) ← expr f d r.tail.tail; let r ← more f d f r; want 57 r
    else do let (_, r) ← expr f d r.tail; pure r
  else pure r
def decl (f d : Nat) (r : List Pc) : Rs (List Pc) := do
  let r ← kind r
  let r ← want 1 r
  let r ← many r
  firsts f (d + 1) r
def plain (f d : Nat) (r : List Pc) : Rs (List Pc) := do
  let (b, r) ← expr f (d + 1) r
  if hd r = 46 then do let (_, r) ← expr f (d + 1) r.tail; pure r
  else if b then pure r else ill r
def test (f d : Nat) (r : List Pc) : Rs (List Pc) := do
  let r ← want 52 r
  let (_, r) ← expr f (d + 1) r
  want 53 r
def isStmt (c : Nat) : Bool := c == 56 || c == 10 || c == 12 || c == 13 || c == 14 || c == 17 || c == 15 || c == 16 || c == 20 || c == 21 || c == 22
mutual
def stmts (f : Nat) (d : Nat) (r : List Pc) : Rs (List Pc) := match f with
  | 0 => .out
  | f + 1 => if hd r = 57 then pure r else do let r ← stmt f d false r; stmts f d r
def stmt (f : Nat) (d : Nat) (alone : Bool) (r : List Pc) : Rs (List Pc) := match f with
  | 0 => .out
  | f + 1 =>
    if 30 < d then ill r
    else if isStmt (hd r) then known f d r
    else if isKind (hd r) && alone then ill r
    else if isKind (hd r) then do let r ← decl f d r; want 49 r
    else do let r ← plain f d r; want 49 r
/-- the sorts that are not read here are .out: nothing is told of them -/
def known (f : Nat) (d : Nat) (r : List Pc) : Rs (List Pc) := match f with
  | 0 => .out
  | f + 1 =>
    if hd r = 56 then do let r ← stmts f (d + 1) r.tail; want 57 r
    else if hd r = 10 then do
      let r ← test f d r.tail
      let r ← stmt f (d + 1) true r
      if hd r = 11 then stmt f (d + 1) true r.tail else pure r
    else if hd r = 20 then (if hd r.tail = 49 then want 49 r.tail else do let (_, r) ← expr f (d + 1) r.tail; want 49 r)
    else if hd r = 21 then do let r ← test f d r.tail; want 49 r
    else .out
end
/-! ### items: what is not read here is .out -/
def function (f : Nat) (r : List Pc) : Rs (List Pc) := do
  let r ← want 52 r
  if hd r ≠ 53 then .out
  else do
    let r ← want 53 r
    let r ← want 56 r
    let r ← stmts f 1 r
    want 57 r
def item (f : Nat) (r : List Pc) : Rs (List Pc) :=
  if hd r = 7 then do
    let r ← kind r
    let r ← want 1 r
    if hd r = 52 then function f r else .out
  else .out
def items (f : Nat) : Nat → List Pc → Rs (List Pc)
  | 0, _ => .out
  | g + 1, r => if hd r ≠ 0 then do let r ← item f r; items f g r else pure r
def modul (f : Nat) (r : List Pc) : Rs (List Pc) := do
  let r ← want 4 r
  let r ← want 1 r
  let r ← want 49 r
  if hd r = 5 then .out else items f f r
/-- sorts of pieces: the last one alone is the end -/
def Wf : List Pc → Prop
  | [] => False
  | [t] => t.1 = 0
  | t :: u :: r => (t.1 ≠ 0 ∧ t.1 < 58) ∧ Wf (u :: r)
theorem Wf.tl {r : List Pc} (h : Wf r) (z : hd r ≠ 0) : Wf r.tail := by
  match r, h with
  | [(c, l, k)], h => exact absurd h z
  | t :: u :: r, h => exact h.2
theorem Wf.cons {r : List Pc} (h : Wf r) : ∃ c l k t, r = (c, l, k) :: t ∧ c < 58 := by
  match r, h with
  | [(c, l, k)], h => exact ⟨c, l, k, [], rfl, by have : c = 0 := h; omega⟩
  | (c, l, k) :: u :: r, h => exact ⟨c, l, k, u :: r, rfl, h.1.2⟩
end Mir

namespace My
open PySem PySem.Spec PyProof.Rows L2
/-! ### more of promises: classes, methods, defs that may raise -/
structure Cl (K : PySem.W.Frag) (mg : Str → Option Value) (x : Str) (C : Addr) : Prop where
  g : mg x = some (.ref C)
  c : Cls K C
structure Dm (K : PySem.W.Frag) (C : Addr) (m qual : Str) (st : Stmt) : Prop where
  ex : ∃ (f : Addr) (fd : FuncData), Meth K C m f ∧ FunD K m qual (defArgs st) (defBody st) (defScope st) [] [] f fd
structure Gm (P : Program) (w : World) (K : PySem.W.Frag) (mg : Str → Option Value) (base : Heap) (CX : CXT) (k : Nat) (C : Addr) (m : Str) (ps : List Str) (sp : Sp) : Prop where
  ex : ∃ (f : Addr) (fd : FuncData), Meth K C m f ∧ FnOk P w K mg base CX k f fd ps sp ∧ Binds K fd ps []
section
variable {P : Program} {w : World} {K : PySem.W.Frag} {mg : Str → Option Value} {base : Heap}
theorem Gm.mono {CX : CXT} {j k : Nat} {C : Addr} {m : Str} {ps : List Str} {sp : Sp} (h : Gm P w K mg base CX j C m ps sp) (hk : j ≤ k) : Gm P w K mg base CX k C m ps sp := by
  obtain ⟨f, fd, a, b, c⟩ := h.ex
  exact ⟨f, fd, a, b.mono hk, c⟩
theorem Df.okX {x : Str} {st : Stmt} {N ps : List Str} {k : Nat} {sp : Sp} (D : Df K mg x st) (S : FnScope N ps (defScope st)) (len : ∀ vs H Q E, sp vs H Q E → vs.length = ps.length)
    (hb : ∀ (kV doc pm : Value) (an : Option Addr) (cdv ct : Value) (us : List Value), us.length = ps.length → bindArgs (PySem.W.fnOf x x (defArgs st) (defBody st) (defScope st) .none kV doc pm an cdv ct) ⟨us, []⟩ = pure (ps.zip us))
    (hbody : ∀ (f : Addr) (cdv : Value) (A : Around) (outer : List Env) (s : Shared) (H : Hp) (vs : List V) (Q : VK) (E : XK), Room k (A.deeper (envOfC x (defScope st) s.heap.objs.size f cdv)) → sp vs H Q E →
      ∃ t, PSs (cxOf (L2.CX P w) P w K mg base N x (defScope st) f cdv A outer s H E) (defBody st) t ∧ t { nx := fun _ H' => Q .non H', rt := Q } (start N vs) H) : Gd P w K mg base (L2.CX P w) (k + 1) x ps sp := by
  obtain ⟨f, fd, hm, F⟩ := D.ex
  have lk : ∃ oc od osl, K.lookup f = some ⟨oc, od, .func fd, osl⟩ := by
    obtain ⟨oc, od, dV, kV, doc, pm, an, cdv, ct, osl, e, l, _⟩ := F.ex
    exact ⟨oc, od, osl, l⟩
  exact ⟨f, fd, hm, F.ok S len fun cdv A outer s H vs Q E hr h => hbody f cdv A outer s H vs Q E hr h, F.bindsN hb, F.kp, lk⟩
theorem Dm.ok {C : Addr} {m qual : Str} {st : Stmt} {N ps : List Str} {k : Nat} {sp : Sp} (D : Dm K C m qual st) (S : FnScope N ps (defScope st)) (len : ∀ vs H Q E, sp vs H Q E → vs.length = ps.length)
    (hb : ∀ (kV doc pm : Value) (an : Option Addr) (cdv ct : Value) (us : List Value), us.length = ps.length → bindArgs (PySem.W.fnOf m qual (defArgs st) (defBody st) (defScope st) .none kV doc pm an cdv ct) ⟨us, []⟩ = pure (ps.zip us))
    (hbody : ∀ (f : Addr) (cdv : Value) (A : Around) (outer : List Env) (s : Shared) (H : Hp) (vs : List V) (Q : VK) (E : XK), Room k (A.deeper (envOfC qual (defScope st) s.heap.objs.size f cdv)) → sp vs H Q E →
      ∃ t, PSs (cxOf CX0 P w K mg base N qual (defScope st) f cdv A outer s H E).nox (defBody st) t ∧ t { nx := fun _ H' => Q .non H', rt := Q } (start N vs) H) : Gm P w K mg base CX0 (k + 1) C m ps sp := by
  obtain ⟨f, fd, hm, F⟩ := D.ex
  refine ⟨f, fd, hm, F.ok S len fun cdv A outer s H vs Q E hr h => ?_, F.bindsN hb⟩
  obtain ⟨t, h1, h2⟩ := hbody f cdv A outer s H vs Q E hr h
  exact ⟨t, h1.nox, h2⟩
theorem Dm.okX {C : Addr} {m qual : Str} {st : Stmt} {N ps : List Str} {k : Nat} {sp : Sp} (D : Dm K C m qual st) (S : FnScope N ps (defScope st)) (len : ∀ vs H Q E, sp vs H Q E → vs.length = ps.length)
    (hb : ∀ (kV doc pm : Value) (an : Option Addr) (cdv ct : Value) (us : List Value), us.length = ps.length → bindArgs (PySem.W.fnOf m qual (defArgs st) (defBody st) (defScope st) .none kV doc pm an cdv ct) ⟨us, []⟩ = pure (ps.zip us))
    (hbody : ∀ (f : Addr) (cdv : Value) (A : Around) (outer : List Env) (s : Shared) (H : Hp) (vs : List V) (Q : VK) (E : XK), Room k (A.deeper (envOfC qual (defScope st) s.heap.objs.size f cdv)) → sp vs H Q E →
      ∃ t, PSs (cxOf (L2.CX P w) P w K mg base N qual (defScope st) f cdv A outer s H E) (defBody st) t ∧ t { nx := fun _ H' => Q .non H', rt := Q } (start N vs) H) : Gm P w K mg base (L2.CX P w) (k + 1) C m ps sp := by
  obtain ⟨f, fd, hm, F⟩ := D.ex
  exact ⟨f, fd, hm, F.ok S len fun cdv A outer s H vs Q E hr h => hbody f cdv A outer s H vs Q E hr h, F.bindsN hb⟩
end
section
variable {X : Cx} {CX : CXT} {k : Nat} {x m : Str} {ps : List Str} {sp : Sp} {E : XK} {e o : Expr} {es : List Expr} {t : TA} {ta : TE} {p pos apos : Pos} {C : Addr}
/-- o.m(..) -/
def tMethG (C : Addr) (m : Str) (sp : Sp) (E : XK) (ta : TE) (t : TA) : TE := fun σ H Q => ta σ H fun x H1 => ∃ a dx fs, x = .ref a ∧ H1 a = some (.ins C dx fs) ∧ fs.lookup m = none ∧ t σ H1 fun vs H2 => sp (x :: vs) H2 Q E
theorem pe_gm {pl : Sem Bool} (he : PE X o ta) (c : Cls X.K C) (G : Gm X.prog X.w X.K X.mg X.base CX k C m ps sp) (hr : Room k X.A) (hx : Passes CX X E) (ha : PA X (e :: es) t)
    (hst : starEach (e :: es) X.env = (false, eval e X.env) :: starEach es X.env := by rfl) (hpl : (backTo pos (starEach es X.env)).any (·.1) = false := by rfl)
    (ht : eval (.Call (.Attribute o m apos) (e :: es) [] pos) X.env = (do
      let ov ← eval o X.env
      standAt apos.atName
      let (f, first) ← holding [ov] (getMethod ov m pl)
      callWith pos f first (backTo pos (starEach (e :: es) X.env)) (backToKw pos (keywordEach [] X.env))) := by rfl) :
    PE X (.Call (.Attribute o m apos) (e :: es) [] pos) (tMethG C m sp E ta t) := by
  obtain ⟨f, fd, hm, F, hb⟩ := G.ex
  have z := pe_meth he c hm F hr hb .nil hx ha hst hpl ht
  refine ⟨fun pins s σ H Q I hw => z.run pins s σ H Q I ?_⟩
  have e0 : (fun (x : V) (H1 : Hp) => ∃ a dx fs, x = .ref a ∧ H1 a = some (.ins C dx fs) ∧ fs.lookup m = none ∧ t σ H1 fun vs H2 => sp (x :: (vs ++ [])) H2 Q E) = fun x H1 => ∃ a dx fs, x = .ref a ∧ H1 a = some (.ins C dx fs) ∧ fs.lookup m = none ∧ t σ H1 fun vs H2 => sp (x :: vs) H2 Q E := by
    funext x H1
    simp only [List.append_nil]
  show ta σ H (fun (x : V) (H1 : Hp) => ∃ a dx fs, x = .ref a ∧ H1 a = some (.ins C dx fs) ∧ fs.lookup m = none ∧ t σ H1 fun vs H2 => sp (x :: (vs ++ [])) H2 Q E)
  rw [e0]
  exact hw
theorem pe_gm0 {pl : Sem Bool} (he : PE X o ta) (c : Cls X.K C) (G : Gm X.prog X.w X.K X.mg X.base CX k C m ps sp) (hr : Room k X.A) (hx : Passes CX X E)
    (ht : eval (.Call (.Attribute o m apos) [] [] pos) X.env = (do
      let ov ← eval o X.env
      standAt apos.atName
      let (f, first) ← holding [ov] (getMethod ov m pl)
      callWith pos f first (backTo pos (starEach [] X.env)) (backToKw pos (keywordEach [] X.env))) := by rfl) :
    PE X (.Call (.Attribute o m apos) [] [] pos) (tMethG C m sp E ta tNil) := by
  obtain ⟨f, fd, hm, F, hb⟩ := G.ex
  have z := pe_meth0 he c hm F hr hb .nil hx ht
  exact ⟨fun pins s σ H Q I hw => z.run pins s σ H Q I hw⟩
end
end My
namespace My
open PySem PySem.Spec PyProof.Rows L2
def sp5 (p : V → V → V → V → V → Hp → VK → XK → Prop) : Sp := fun vs H Q E => ∃ a b c d e, vs = [a, b, c, d, e] ∧ p a b c d e H Q E
theorem len5 {p} (vs : List V) (H : Hp) (Q : VK) (E : XK) (h : sp5 p vs H Q E) : vs.length = 5 := by obtain ⟨a, b, c, d, e, rfl, _⟩ := h; rfl
end My
namespace Rd
open PySem PySem.Spec PyProof.Rows L2 My Mir
def srt (c : Nat) : Str := PySem.Str.ofString (sorts.getD c "")
theorem srt_ix : ∀ a, a < 58 → ∀ b, b < 58 → srt a = srt b → a = b := by decide +kernel
theorem srt_dec {a b : Nat} (ha : a < 58) (hb : b < 58) : decide (V.str (srt a) = V.str (srt b)) = decide (a = b) := by
  by_cases h : a = b
  · subst h; simp
  · rw [decide_eq_false h, decide_eq_false]
    intro z
    exact h (srt_ix a ha b hb (V.str.inj z))
/-- a piece at p -/
def TokAt (H : Hp) (p : Addr) (t : Pc) : Prop := ∃ (w : V) (q : Addr), H p = some (.tup [.str (srt t.1), w, .ref q]) ∧ H q = some (.tup [.int (t.2.1 : Int), .int (t.2.2 : Int)]) ∧
  (t.1 = 2 → ∃ (u : Addr) (z : Int) (kd : V), w = .ref u ∧ H u = some (.tup [.int z, kd]))
def Tks (H : Hp) : List Addr → List Pc → Prop
  | [], [] => True
  | p :: ps, t :: ts => TokAt H p t ∧ Tks H ps ts
  | _, _ => False
/-- the cursor at c: its list at l, its place n, the rest r -/
def Cur (CC : Addr) (H : Hp) (c l : Addr) (n : Nat) (r : List Pc) : Prop :=
  (∃ dx, H c = some (.ins CC dx [("pieces", .ref l), ("at", .int (n : Int))])) ∧ ∃ ps : List Addr, H l = some (.lst (ps.map V.ref)) ∧ Tks H (ps.drop n) r ∧ n + r.length ≤ 4000000
/-- all but these stays -/
def ButL (as : List Addr) (H H' : Hp) : Prop := ∀ b o, H b = some o → ¬ b ∈ as → H' b = some o
theorem ButL.refl {as : List Addr} {H : Hp} : ButL as H H := fun _ _ e _ => e
theorem ButL.trans {as : List Addr} {H H1 H2 : Hp} (a : ButL as H H1) (b : ButL as H1 H2) : ButL as H H2 := fun x o e h => b x o (a x o e h) h
theorem ButL.more {as bs : List Addr} {H H1 : Hp} (a : ButL as H H1) (h : ∀ x, x ∈ as → x ∈ bs) : ButL bs H H1 := fun x o e n => a x o e fun m => n (h x m)
theorem ButL.same {as : List Addr} {H H1 : Hp} (a : Same H H1) : ButL as H H1 := fun x o e _ => a x o e
theorem ButL.put {as : List Addr} {H : Hp} {a : Addr} {o : HO} (h : a ∈ as) : ButL as H (upd H a o) := fun x u e n => by
  rw [upd_ne (fun z => n (by rw [z]; exact h))]; exact e
theorem ButL.new {as : List Addr} {H : Hp} {a : Addr} {o : HO} (h : H a = none) : ButL as H (upd H a o) := fun x u e _ => by
  rw [upd_ne (ne_of_none e h)]; exact e
/-- none of these is a tuple -/
def Mu (as : List Addr) (H : Hp) : Prop := ∀ a, a ∈ as → ∀ xs, H a ≠ some (.tup xs)
theorem ButL.tup {as : List Addr} {H H' : Hp} (h : ButL as H H') (m : Mu as H) {p : Addr} {xs : List V} (e : H p = some (.tup xs)) : H' p = some (.tup xs) := h p _ e fun z => m p z xs e
theorem TokAt.keep {as : List Addr} {H H' : Hp} (h : ButL as H H') (m : Mu as H) {p : Addr} {t : Pc} (x : TokAt H p t) : TokAt H' p t := by
  obtain ⟨w, q, a, b, c⟩ := x
  exact ⟨w, q, h.tup m a, h.tup m b, fun z => by
    obtain ⟨u, i, kd, e, f⟩ := c z
    exact ⟨u, i, kd, e, h.tup m f⟩⟩
theorem Tks.keep {as : List Addr} {H H' : Hp} (h : ButL as H H') (m : Mu as H) : ∀ {ps : List Addr} {ts : List Pc}, Tks H ps ts → Tks H' ps ts
  | [], [], _ => trivial
  | p :: ps, t :: ts, x => ⟨TokAt.keep h m x.1, Tks.keep h m x.2⟩
  | [], _ :: _, x => x.elim
  | _ :: _, [], x => x.elim
theorem mu1 {H : Hp} {c CC dx : Addr} {fs : List (Str × V)} (h : H c = some (.ins CC dx fs)) : Mu [c] H := by
  intro a ha xs e
  have z : a = c := by simpa using ha
  rw [z, h] at e
  cases e
/-- what is let out: BadText of this line and column; all but these stays -/
def Bad (CB : Addr) (as : List Addr) (H : Hp) (E : XK) (l k : Nat) : Prop := ∀ (d : Addr) (H' : Hp), ButL as H H' → H' d = some (.xd (btFs (.int (l : Int)) (.int (k : Int)))) → E (.ref CB) (some d) H'
theorem Bad.after {CB : Addr} {as : List Addr} {H H' : Hp} {E : XK} {l k : Nat} (h : Bad CB as H E l k) (b : ButL as H H') : Bad CB as H' E l k := fun d H2 b2 e => h d H2 (b.trans b2) e
theorem Bad.less {CB : Addr} {as bs : List Addr} {H : Hp} {E : XK} {l k : Nat} (h : Bad CB bs H E l k) (s : ∀ x, x ∈ as → x ∈ bs) : Bad CB as H E l k := fun d H2 b2 e => h d H2 (b2.more s) e
/-- a def that moves a cursor -/
def Runs (CC CB : Addr) {α : Type} (F : List Pc → Rs (α × List Pc)) (Rel : α → V → Hp → Prop) (c : Addr) (H : Hp) (Q : VK) (E : XK) : Prop := ∃ (l : Addr) (n : Nat) (r : List Pc), Cur CC H c l n r ∧ Wf r ∧
  Post (F r) (fun a => ∀ (v : V) (n' : Nat) (H' : Hp), ButL [c] H H' → Cur CC H' c l n' a.2 → Wf a.2 → n' + a.2.length = n + r.length → Rel a.1 v H' → Q v H') (Bad CB [c] H E)
def RunsU (CC CB : Addr) (F : List Pc → Rs (List Pc)) (c : Addr) (H : Hp) (Q : VK) (E : XK) : Prop := ∃ (l : Addr) (n : Nat) (r : List Pc), Cur CC H c l n r ∧ Wf r ∧
  Post (F r) (fun r' => ∀ (v : V) (n' : Nat) (H' : Hp), ButL [c] H H' → Cur CC H' c l n' r' → Wf r' → n' + r'.length = n + r.length → Q v H') (Bad CB [c] H E)
theorem Cur.keep {CC c l : Addr} {n : Nat} {r : List Pc} {as : List Addr} {H H' : Hp} (x : Cur CC H c l n r) (h : ButL as H H') (m : Mu as H) (hc : ¬ c ∈ as) (hl : ¬ l ∈ as) : Cur CC H' c l n r := by
  obtain ⟨⟨dx, a⟩, ps, b, t, z⟩ := x
  exact ⟨⟨dx, h _ _ a hc⟩, ps, h _ _ b hl, Tks.keep h m t, z⟩
/-- something new is laid -/
theorem Cur.laid {CC c l a : Addr} {n : Nat} {r : List Pc} {H : Hp} {o : HO} (x : Cur CC H c l n r) (h : H a = none) : Cur CC (upd H a o) c l n r := x.keep (as := []) (ButL.new h) (fun a ha => by cases ha) (by simp) (by simp)
/-- the piece ahead -/
theorem Cur.tok {CC c l : Addr} {n : Nat} {r : List Pc} {H : Hp} (x : Cur CC H c l n r) (w : Wf r) : ∃ (ps : List Addr) (p : Addr) (t : Pc) (ts : List Pc) (dx : Addr), r = t :: ts ∧ t.1 < 58 ∧ H c = some (.ins CC dx [("pieces", .ref l), ("at", .int (n : Int))]) ∧
    H l = some (.lst (ps.map V.ref)) ∧ ps[n]? = some p ∧ TokAt H p t ∧ Tks H (ps.drop (n + 1)) ts ∧ n + 1 + ts.length ≤ 4000000 := by
  obtain ⟨⟨dx, a⟩, ps, b, t, zz⟩ := x
  obtain ⟨c', l', k', ts, rfl, hc⟩ := w.cons
  cases e : ps.drop n with
  | nil =>
    rw [e] at t
    exact t.elim
  | cons p qs =>
    rw [e] at t
    have hn : n < ps.length := by
      have z := congrArg List.length e
      rw [List.length_drop, List.length_cons] at z
      omega
    have e2 := List.drop_eq_getElem_cons hn
    rw [e] at e2
    obtain ⟨e3, e4⟩ := List.cons.inj e2
    refine ⟨ps, p, (c', l', k'), ts, dx, rfl, hc, a, b, ?_, t.1, ?_⟩
    · rw [List.getElem?_eq_getElem hn, e3]
    · refine ⟨by rw [← e4]; exact t.2, ?_⟩
      have zz' : n + (ts.length + 1) ≤ 4000000 := zz
      omega
end Rd

namespace Zp
open PySem PySem.Spec PyProof.Rows L2
/-! ### zip of three lists -/
def It3 (K : PySem.W.Frag) (a b c : Addr) (xs ys zs : List V) : It :=
  ⟨fun i H => SqL K H a xs ∧ SqL K H b ys ∧ SqL K H c zs ∧ i < xs.length ∧ i < ys.length ∧ i < zs.length,
   fun i H v H' => ∃ T x y z, v = .ref T ∧ H T = none ∧ H' = upd H T (.tup [x, y, z]) ∧ xs[i]? = some x ∧ ys[i]? = some y ∧ zs[i]? = some z,
   fun i H => SqL K H a xs ∧ SqL K H b ys ∧ SqL K H c zs ∧ i = xs.length ∧ i = ys.length ∧ i = zs.length⟩
structure Far (z TI TO i1 i2 i3 a b c : Addr) : Prop where
  sep : ZipSep3 z TI TO i1 i2 i3 [i1, a] [i2, b] [i3, c]
  a1 : a ≠ i1
  b2 : b ≠ i2
  c3 : c ≠ i3
  tiz : TI ≠ z
  tito : TI ≠ TO
  ti1 : TI ≠ i1
  ti2 : TI ≠ i2
  ti3 : TI ≠ i3
theorem turn3 {P : Program} {w : World} {K : PySem.W.Frag} {elts : List Expr} {kk : Nat} {tpos : Pos} {a b c z TI TO i1 i2 i3 : Addr} {xs ys zs : List V} (D : Far z TI TO i1 i2 i3 a b c) :
    Turn P w K (.Tuple elts kk tpos) (It3 K a b c xs ys zs) [z, TI, TO, i1, i2, i3] z
      (fun i h => IsZip h z TI TO .none ∧ IsTupOf3 h TI (.ref i1) (.ref i2) (.ref i3) ∧ (∃ u v w, IsTupOf3 h TO u v w) ∧ h.IsListIter i1 a i ∧ h.IsListIter i2 b i ∧ h.IsListIter i3 c i) where
  mem := by simp
  obj := fun i h st q hq => by
    obtain ⟨s1, s2, ⟨u, v, w, s3⟩, ⟨o1, e1, _, d1⟩, ⟨o2, e2, _, d2⟩, ⟨o3, e3, _, d3⟩⟩ := st
    have cs : q = z ∨ q = TI ∨ q = TO ∨ q = i1 ∨ q = i2 ∨ q = i3 := by simpa using hq
    rcases cs with rfl | rfl | rfl | rfl | rfl | rfl
    · exact ⟨_, s1, fun v n => nomatch n⟩
    · exact ⟨_, s2, fun v n => nomatch n⟩
    · exact ⟨_, s3, fun v n => nomatch n⟩
    · exact ⟨o1, e1, fun v n => by rw [d1] at n; cases n⟩
    · exact ⟨o2, e2, fun v n => by rw [d2] at n; cases n⟩
    · exact ⟨o3, e3, fun v n => by rw [d3] at n; cases n⟩
  keep := fun i h h' st k => by
    obtain ⟨s1, s2, ⟨u, v, w, s3⟩, t1, t2, t3⟩ := st
    exact ⟨k z (by simp) _ s1, k TI (by simp) _ s2, ⟨u, v, w, k TO (by simp) _ s3⟩, t1.at fun o e => k i1 (by simp) o e, t2.at fun o e => k i2 (by simp) o e, t3.at fun o e => k i3 (by simp) o e⟩
  item := by
    intro X eP ew eK hcalm i pins s σ H E I far st go
    subst eP ew eK
    obtain ⟨s1, s2, s3, t1, t2, t3⟩ := st
    obtain ⟨qa, qb, qc, la, lb, lc⟩ := go
    obtain ⟨us, ra, pa, _⟩ := I.list qa
    obtain ⟨vs, rb, pb, _⟩ := I.list qb
    obtain ⟨ws, rc, pc, _⟩ := I.list qc
    have na := ra.length
    have nb := rb.length
    have nc := rc.length
    have hh : (X.A.in1).handled = none := I.ok.hd hcalm
    have G := GoesN.zip3 (prog := X.prog) (w := X.w) (A := X.A) (elts := elts) (x1 := kk) (pos := tpos) D.sep (Draws.list hh i1 a D.a1 us.toArray) (Draws.list hh i2 b D.b2 vs.toArray) (Draws.list hh i3 c D.c3 ws.toArray)
    have lts : ∀ q ∈ ([z, TI, TO, i1, i2, i3] : List Addr), q < s.heap.objs.size := fun q hq => by
      obtain ⟨u, v, w, s3⟩ := s3
      obtain ⟨o1, e1, _⟩ := t1
      obtain ⟨o2, e2, _⟩ := t2
      obtain ⟨o3, e3, _⟩ := t3
      have cs : q = z ∨ q = TI ∨ q = TO ∨ q = i1 ∨ q = i2 ∨ q = i3 := by simpa using hq
      rcases cs with e | e | e | e | e | e
      · rw [e]; exact Heap.lt_size s1
      · rw [e]; exact Heap.lt_size s2
      · rw [e]; exact Heap.lt_size s3
      · rw [e]; exact Heap.lt_size e1
      · rw [e]; exact Heap.lt_size e2
      · rw [e]; exact Heap.lt_size e3
    have hmin : i < min (min us.toArray.size vs.toArray.size) ws.toArray.size := by simp only [List.size_toArray]; omega
    refine wpAny_mono (G.goes i s (fun v s2 => ∃ x H', Inv X pins σ H' s2 ∧ RelV x v ∧ (It3 X.K a b c xs ys zs).yld i H x H' ∧
      (IsZip s2.heap z TI TO .none ∧ IsTupOf3 s2.heap TI (.ref i1) (.ref i2) (.ref i3) ∧ (∃ u v w, IsTupOf3 s2.heap TO u v w) ∧ s2.heap.IsListIter i1 a (i + 1) ∧ s2.heap.IsListIter i2 b (i + 1) ∧ s2.heap.IsListIter i3 c (i + 1)) ∧ ∀ q ∈ [z, TI, TO, i1, i2, i3], H' q = none)
      E hmin ⟨s1, s2, s3, ⟨t1, pa.isList⟩, ⟨t2, pb.isList⟩, ⟨t3, pc.isList⟩⟩ fun v h' tk hY st' hk htk => ?_) (fun r s4 ⟨v, er, hv⟩ => ⟨v, er, hv⟩) fun _ _ e => e
    obtain ⟨T, u1, u2, u3, rfl, hnew, y1, y2, y3, oT, eT, cT, nT, dT⟩ := hY
    obtain ⟨z1, z2, z3, ⟨k1, _⟩, ⟨k2, _⟩, ⟨k3, _⟩⟩ := st'
    obtain ⟨x, ex⟩ : ∃ x, xs[i]? = some x := ⟨xs[i], List.getElem?_eq_getElem la⟩
    obtain ⟨y, ey⟩ : ∃ y, ys[i]? = some y := ⟨ys[i], List.getElem?_eq_getElem lb⟩
    obtain ⟨q, eq⟩ : ∃ q, zs[i]? = some q := ⟨zs[i], List.getElem?_eq_getElem lc⟩
    obtain ⟨x', gx, rx⟩ := ra.get ex
    obtain ⟨y', gy, ry⟩ := rb.get ey
    obtain ⟨q', gq, rq⟩ := rc.get eq
    have f1 : u1 = x' := by
      have : us[i]? = some u1 := by simpa using y1
      rw [gx] at this; injection this with this; exact this.symm
    have f2 : u2 = y' := by
      have : vs[i]? = some u2 := by simpa using y2
      rw [gy] at this; injection this with this; exact this.symm
    have f3 : u3 = q' := by
      have : ws[i]? = some u3 := by simpa using y3
      rw [gq] at this; injection this with this; exact this.symm
    subst f1 f2 f3
    have new : ObjOk X.prog X.w (upd H T (.tup [x, y, q])) h' T (.tup [x, y, q]) :=
      ⟨by show 3 ≤ sizeLine; decide, [u1, u2, u3], .cons rx (.cons ry (.cons rq .nil)), ⟨_, eT, cT, nT, dT⟩⟩
    have J : Inv X pins σ (upd H T (.tup [x, y, q])) { s with heap := h', toks := tk } :=
      I.turnedNew (ch := [z, TI, TO, i1, i2, i3]) (fun q o nb e => hk q o (fun m => nb (by
        have cs : q = z ∨ q = TO ∨ q = i1 ∨ q = i2 ∨ q = i3 := by simpa using m
        rcases cs with e | e | e | e | e <;> simp [e])) e) far hnew new
    refine ⟨.ref T, _, J, rfl, ⟨T, x, y, q, rfl, I.hok.fresh hnew, rfl, ex, ey, eq⟩, ⟨z1, z2, z3, k1, k2, k3⟩, fun b hb => ?_⟩
    rw [upd_ne (Nat.ne_of_lt (Nat.lt_of_lt_of_le (lts b hb) hnew))]
    exact (far b hb).1
  done := by
    intro X eP ew eK hcalm i pins s σ H E I far st stop
    subst eP ew eK
    obtain ⟨s1, s2, s3, t1, t2, t3⟩ := st
    obtain ⟨qa, qb, qc, la, lb, lc⟩ := stop
    obtain ⟨us, ra, pa, _⟩ := I.list qa
    obtain ⟨vs, rb, pb, _⟩ := I.list qb
    obtain ⟨ws, rc, pc, _⟩ := I.list qc
    have na := ra.length
    have nb := rb.length
    have nc := rc.length
    have hh : (X.A.in1).handled = none := I.ok.hd hcalm
    have G := GoesN.zip3 (prog := X.prog) (w := X.w) (A := X.A) (elts := elts) (x1 := kk) (pos := tpos) D.sep (Draws.list hh i1 a D.a1 us.toArray) (Draws.list hh i2 b D.b2 vs.toArray) (Draws.list hh i3 c D.c3 ws.toArray)
    have hmin : min (min us.toArray.size vs.toArray.size) ws.toArray.size = i := by simp only [List.size_toArray]; omega
    rw [hmin] at G
    refine G.stops s (fun s2 => Inv X pins σ H s2) E ⟨s1, s2, s3, ⟨t1, pa.isList⟩, ⟨t2, pb.isList⟩, ⟨t3, pc.isList⟩⟩ fun h' tk hk htk => ?_
    exact I.turnedL (ch := [z, TI, TO, i1, i2, i3]) (fun q o nb e => hk q o (fun m => nb (by
        have cs : q = z ∨ q = TO ∨ q = i1 ∨ q = i2 ∨ q = i3 := by simpa using m
        rcases cs with e | e | e | e | e <;> simp [e])) e) far
  self := fun A i s Q E st h => wpAny_pyIter_zip st.1 h
def iZip3 (K : PySem.W.Frag) (ta : TA) : TI := fun σ H R => ta σ H fun vs H1 => ∃ a b c xs ys zs, vs = [.ref a, .ref b, .ref c] ∧ SqL K H1 a xs ∧ SqL K H1 b ys ∧ SqL K H1 c zs ∧ R (It3 K a b c xs ys zs) H1
theorem pi_zip3 {X : Cx} {e e2 e3 : Expr} {ta : TA} {p pos tpos : Pos} {elts : List Expr} {kk : Nat} (hg : Gl X "zip") (hm : X.mg "zip" = none) (ha : PA X [e, e2, e3] ta)
    (hs : starEach [e, e2, e3] X.env = (false, eval e X.env) :: starEach [e2, e3] X.env := by rfl) (hpl : (backTo pos (starEach [e2, e3] X.env)).any (·.1) = false := by rfl) :
    PI X (.Tuple elts kk tpos) (.Call (.Name "zip" p) [e, e2, e3] [] pos) (iZip3 X.K ta) := by
  refine ⟨fun pins s σ H R I hw => ?_⟩
  refine Call_ (ld_blt I hg hm PyProof.Rows.boot_zip (PyProof.Rows.callWith_type1 (thn (ha.run pos pins s σ H _ I hw) fun us s1 ⟨vs, H1, I1, r1, q1⟩ => ?_) hs hpl))
  obtain ⟨a, b, c, xs, ys, zs, rfl, qa, qb, qc, q⟩ := q1
  cases r1 with
  | cons ra rr =>
    cases rr with
    | cons rb rr =>
      cases rr with
      | cons rc rr =>
        cases rr
        cases ra
        cases rb
        cases rc
        obtain ⟨us, va, pa, _⟩ := I1.list qa
        obtain ⟨ws, vb, pb, _⟩ := I1.list qb
        obtain ⟨ts, vc, pc, _⟩ := I1.list qc
        have la : a < s1.heap.objs.size := pa.lt
        have lb : b < s1.heap.objs.size := pb.lt
        have lc : c < s1.heap.objs.size := pc.lt
        refine zip_begins3 (begins_list a us.toArray) (begins_list b ws.toArray) (begins_list c ts.toArray) pa.isList pb.isList pc.isList fun h' hz hTI hTO h1 h2 h3 hsz hk => wpAny_pyIter_zip hz ?_
        have J : Inv X pins σ H1 { s1 with heap := h' } := I1.kept (t' := s1.toks) hk
        generalize hN : s1.heap.objs.size = N at *
        have far : Far (N + 5) (N + 3) (N + 4) N (N + 1) (N + 2) a b c :=
          { sep := zip_sep3 (by intro q hq; have : q = a := by simpa using hq
                                rw [this]; exact la) (by intro q hq; have : q = b := by simpa using hq
                                                         rw [this]; exact lb) (by intro q hq; have : q = c := by simpa using hq
                                                                                  rw [this]; exact lc)
            a1 := Nat.ne_of_lt la, b2 := Nat.ne_of_lt (Nat.lt_succ_of_lt lb), c3 := Nat.ne_of_lt (Nat.lt_succ_of_lt (Nat.lt_succ_of_lt lc))
            tiz := show (N + 3 : Nat) ≠ N + 5 by omega, tito := show (N + 3 : Nat) ≠ N + 4 by omega, ti1 := show (N + 3 : Nat) ≠ N by omega, ti2 := show (N + 3 : Nat) ≠ N + 1 by omega, ti3 := show (N + 3 : Nat) ≠ N + 2 by omega }
        refine ⟨N + 5, [N + 5, N + 3, N + 4, N, N + 1, N + 2], _, _, H1, rfl, J, turn3 far, ⟨hz, hTI, ⟨_, _, _, hTO⟩, ⟨_, h1, rfl, rfl⟩, ⟨_, h2, rfl, rfl⟩, ⟨_, h3, rfl, rfl⟩⟩, fun x hx => ?_, q⟩
        have cs : x = N + 5 ∨ x = N + 3 ∨ x = N + 4 ∨ x = N ∨ x = N + 1 ∨ x = N + 2 := by simpa using hx
        have le : N ≤ x := by
          rcases cs with e | e | e | e | e | e
          · rw [e]; exact Nat.le_add_right N 5
          · rw [e]; exact Nat.le_add_right N 3
          · rw [e]; exact Nat.le_add_right N 4
          · rw [e]; exact Nat.le_refl N
          · rw [e]; exact Nat.le_add_right N 1
          · rw [e]; exact Nat.le_add_right N 2
        have le' : s1.heap.objs.size ≤ x := by rw [hN]; exact le
        exact I1.fpOk le' (I1.hok.fresh le')
theorem walk3 {K : PySem.W.Frag} {a b c : Addr} {xs ys zs : List V} (h1 : ys.length = xs.length) (h2 : zs.length = xs.length) :
    Walk (It3 K a b c xs ys zs) xs.length (fun H => SqL K H a xs ∧ SqL K H b ys ∧ SqL K H c zs)
      (fun i H v H' => ∃ T x y z, v = .ref T ∧ H T = none ∧ H' = upd H T (.tup [x, y, z]) ∧ xs[i]? = some x ∧ ys[i]? = some y ∧ zs[i]? = some z) :=
  ⟨fun i H hi q => ⟨q.1, q.2.1, q.2.2, hi, by omega, by omega⟩, fun H q => ⟨q.1, q.2.1, q.2.2, rfl, h1.symm, h2.symm⟩, fun _ _ _ _ _ _ y => y⟩
end Zp

namespace Kg
open PySem PySem.Spec PyProof.Rows L2
/-! ### d.get(k, x) of a written dict whose keys are ints -/
structure KInt (K : PySem.W.Frag) (d : Addr) (es : Array DictEntry) (n : Nat) : Prop where
  at_ : K.lookup d = some ⟨.type "dict", none, .dict es n, #[]⟩
  lit : ∀ e ∈ es, ∃ k t, e.key = .int k t ∧ e.hash = hashInt k
  low : (d == sysModules) = false
theorem KInt.map {prog : Program} {w : World} {K : PySem.W.Frag} {d : Addr} {es : Array DictEntry} {n : Nat} {h : Heap} (D : KInt K d es n) (X : K.In h) : h.MapOf (intKind prog w) d (fun k => findBy Value.isInt es k) :=
  ⟨_, es, n, X _ _ D.at_, ⟨rfl, rfl, rfl⟩, rfl, fun e he => by
    obtain ⟨k, t, a, b⟩ := D.lit e he
    exact ⟨k, by rw [a]; exact intKind_is prog w k t, b⟩, fun _ => rfl⟩
def tKGet (d : Addr) (es : Array DictEntry) (td ty tx : TE) : TE := fun σ H Q => td σ H fun x H1 => x = .ref d ∧ ty σ H1 fun y H2 => tx σ H2 fun z H3 => ∃ (k : Int) (u : Value) (v : V), y = .int k ∧ findBy Value.isInt es k = some u ∧ RelV v u ∧ Q v H3
theorem pe_kget {X : Cx} {o e f : Expr} {apos cpos : Pos} {td ty tx : TE} {d : Addr} {es : Array DictEntry} {n : Nat} (D : KInt X.K d es n) (ho : PE X o td) (he : PE X e ty) (hf : PE X f tx) (m : M2 X o "get" apos e f cpos) :
    PE X (.Call (.Attribute o "get" apos) [e, f] [] cpos) (tKGet d es td ty tx) := by
  refine ⟨fun pins s σ H Q I hw => ?_⟩
  refine wpAny_Call_method m.base m.few m.line PySem.F.plainAttrs_dict PySem.F.slot_dict_get PySem.F.type_dict_get (thn (ho.run pins s σ H _ I hw) fun u s1 ⟨x, H1, I1, rx, ex, q1⟩ => ?_)
  subst ex
  obtain rfl : u = Value.ref d := rx
  have M1 := D.map (prog := X.prog) (w := X.w) I1.kIn
  refine ⟨M1.typeIs, fun b q => ?_, ?_⟩
  · cases q
    exact ⟨_, I1.kIn _ _ D.at_, rfl⟩
  rw [m.trees]
  refine Calls.callWith_builtin rfl (Calls.evalArgs_plain (Calls.spliced_cons (thn (he.run pins s1 σ H1 _ I1 q1) fun kv s2 ⟨y, H2, I2, ry, q2⟩ =>
    Calls.spliced_cons (thn (hf.run pins s2 σ H2 _ I2 q2) fun fv s3 ⟨z, H3, I3, rz, k, u, v, ey, hk, ru, q3⟩ => Calls.spliced_nil ?_))))
  subst ey
  obtain ⟨t, rfl⟩ := ry
  have M3 := D.map (prog := X.prog) (w := X.w) I3.kIn
  refine call_meetsIn PySem.F.slot_dict_get M3.typeIs PySem.F.entry_dict_get (PySem.F.args_dict_get_3 _ _ _) (meets_dict_get_default (intKind X.prog X.w) d (intKind_is _ _ k t) D.low fv) ⟨_, M3, v, H3, I3.tok _, ?_, q3⟩
  rw [hk]
  exact ru
/-! ### written tuples, told by a Bool of the written part -/
def tupA (K : PySem.W.Frag) (u : Value) (vs : List V) : Bool := match u with
  | .ref a => match K.lookup a with
    | some ⟨.type c, _, .seq its _, _⟩ => decide (c = "tuple") && (decide (its.size ≤ sizeLine) && He.relAll vs its.toList)
    | _ => false
  | _ => false
theorem tupA_ok {K : PySem.W.Frag} {u : Value} {vs : List V} (h : tupA K u vs = true) : ∃ a, u = .ref a ∧ ∀ H : Hp, SqT K H a vs := by
  unfold tupA at h
  split at h
  · rename_i a
    refine ⟨a, rfl, fun H => ?_⟩
    split at h
    · rename_i c od its n osl hl
      obtain ⟨h1, h2⟩ := He.ba h
      obtain ⟨h2, h3⟩ := He.ba h2
      have e1 : c = "tuple" := of_decide_eq_true h1
      subst e1
      exact Or.inr ⟨_, its, n, hl, rfl, rfl, of_decide_eq_true h2, He.relAll_ok h3⟩
    · cases h
  · cases h
/-- a written dict's entry at a text is this tuple -/
def entA (K : PySem.W.Frag) (d : Addr) (x : Str) (vs : List V) : Bool := match PySem.W.nsIn K d x with
  | some (some u) => tupA K u vs
  | _ => false
theorem entA_ok {K : PySem.W.Frag} {d : Addr} {x : Str} {vs : List V} (h : entA K d x vs = true) : ∃ a, PySem.W.nsIn K d x = some (some (.ref a)) ∧ ∀ H : Hp, SqT K H a vs := by
  unfold entA at h
  split at h
  · rename_i u hu
    obtain ⟨a, rfl, q⟩ := tupA_ok h
    exact ⟨a, hu, q⟩
  · cases h
def intOk (e : DictEntry) : Bool := match e.key with
  | .int k _ => decide (e.hash = hashInt k)
  | _ => false
theorem intOk_ok {e : DictEntry} (h : intOk e = true) : ∃ k t, e.key = .int k t ∧ e.hash = hashInt k := by
  unfold intOk at h
  split at h
  · rename_i k t hk
    exact ⟨k, t, hk, of_decide_eq_true h⟩
  · cases h
/-- a written dict with int keys; at each of these ints this tuple of texts -/
def kintB (K : PySem.W.Frag) (d : Addr) (qs : List (Int × List V)) : Bool := match K.lookup d with
  | some ⟨.type c, none, .dict es _, sl⟩ => decide (c = "dict") && (decide (sl.toList = []) && (!(d == sysModules) && (es.all intOk && qs.all fun q => match findBy Value.isInt es q.1 with
    | some u => tupA K u q.2
    | none => false)))
  | _ => false
theorem kintB_ok {K : PySem.W.Frag} {d : Addr} {qs : List (Int × List V)} (h : kintB K d qs = true) : ∃ es n, KInt K d es n ∧ ∀ q ∈ qs, ∃ a, findBy Value.isInt es q.1 = some (.ref a) ∧ ∀ H : Hp, SqT K H a q.2 := by
  unfold kintB at h
  split at h
  · rename_i c es n sl hl
    obtain ⟨h1, h⟩ := He.ba h
    obtain ⟨h2, h⟩ := He.ba h
    obtain ⟨h3, h⟩ := He.ba h
    obtain ⟨h4, h5⟩ := He.ba h
    have e1 : c = "dict" := of_decide_eq_true h1
    have e2 : sl = #[] := by apply Array.ext'; exact of_decide_eq_true h2
    subst e1 e2
    refine ⟨es, n, ⟨hl, fun e he => intOk_ok (Array.all_eq_true_iff_forall_mem.mp h4 e he), by simpa using h3⟩, fun q hq => ?_⟩
    have h6 := List.all_eq_true.mp h5 q hq
    split at h6
    · rename_i u hu
      obtain ⟨a, rfl, r⟩ := tupA_ok h6
      exact ⟨a, hu, r⟩
    · cases h6
  · cases h
end Kg

namespace K70
open PySem PySem.Spec PyProof.Rows L2 My
/-! ### lines, and what they take -/
inductive Ln where
  | lab (n : Nat) | br (o g : Nat) | nop | stop | jmp (g : Nat)
deriving DecidableEq
def behind : List Ln → List Nat
  | .lab n :: r => n :: behind r
  | _ => []
def size0 : Ln → List Ln → Nat
  | .lab _, _ => 0
  | .jmp g, r => if g ∈ behind r then 0 else 1
  | _, _ => 1
def isBr : Ln → Bool
  | .br _ _ => true
  | _ => false
def szs (F : Nat → Bool) : Nat → List Ln → List Nat
  | _, [] => []
  | i, l :: r => (if (isBr l && F i) = true then 2 else size0 l r) :: szs F (i + 1) r
theorem szs_len (F : Nat → Bool) : ∀ (ls : List Ln) (i : Nat), (szs F i ls).length = ls.length
  | [], _ => rfl
  | l :: r, i => by rw [szs, List.length_cons, List.length_cons, szs_len F r]
def starts : Nat → List Nat → List Nat
  | _, [] => []
  | s, z :: zs => s :: starts (s + z) zs
theorem starts_len : ∀ (zs : List Nat) (s : Nat), (starts s zs).length = zs.length
  | [], _ => rfl
  | z :: zs, s => by rw [starts, List.length_cons, List.length_cons, starts_len zs]
theorem starts_at : ∀ (zs : List Nat) (s i : Nat), i < zs.length → (starts s zs)[i]? = some (s + (zs.take i).sum)
  | [], _, i, h => by simp at h
  | z :: zs, s, 0, _ => by simp [starts]
  | z :: zs, s, i + 1, h => by
    have q := starts_at zs (s + z) i (by simpa using h)
    simp only [starts, List.getElem?_cons_succ, List.take_succ_cons, List.sum_cons]
    rw [q, Nat.add_assoc]
def labs : Nat → List Ln → List Nat → List (Key × V) → List (Key × V)
  | s, l :: ls, z :: zs, acc => labs (s + z) ls zs (match l with
    | .lab n => putK acc (.inl (n : Int)) (.int (s : Int))
    | _ => acc)
  | _, _, _, acc => acc
def labPos (g : Nat) : Nat → List Ln → List Nat → Option Nat
  | s, l :: ls, z :: zs => match labPos g (s + z) ls zs with
    | some p => some p
    | none => if l = .lab g then some s else none
  | _, _, _ => none
theorem labs_get (g : Nat) : ∀ (ls : List Ln) (zs : List Nat) (s : Nat) (acc : List (Key × V)), valV (labs s ls zs acc) (.inl (g : Int)) = match labPos g s ls zs with
    | some p => some (.int (p : Int))
    | none => valV acc (.inl (g : Int))
  | [], _, _, _ => by unfold labs labPos; rfl
  | l :: ls, [], _, _ => by unfold labs labPos; rfl
  | l :: ls, z :: zs, s, acc => by
    unfold labs labPos
    rw [labs_get g ls zs (s + z)]
    cases e : labPos g (s + z) ls zs with
    | some p => rfl
    | none =>
      cases l with
      | lab n =>
        show valV (putK acc (.inl (n : Int)) (.int (s : Int))) (.inl (g : Int)) = _
        rw [valV_put]
        by_cases c : g = n
        · subst c
          rw [if_pos rfl, if_pos rfl]
        · rw [if_neg (fun z => c (by injection z with z; omega)), if_neg (fun z => c (by injection z with z; exact z.symm))]
      | _ => rfl
theorem labs_nodup : ∀ (ls : List Ln) (zs : List Nat) (s : Nat) (acc : List (Key × V)), (acc.map (·.1)).Nodup → ((labs s ls zs acc).map (·.1)).Nodup
  | [], _, _, _, h => by unfold labs; exact h
  | l :: ls, [], _, _, h => by unfold labs; exact h
  | l :: ls, z :: zs, s, acc, h => by
    unfold labs
    refine labs_nodup ls zs (s + z) _ ?_
    cases l with
    | lab n =>
      show ((putK acc (.inl (n : Int)) (.int (s : Int))).map (·.1)).Nodup
      cases e : valV acc (.inl (n : Int)) with
      | none => exact nd_putK _ h e
      | some v =>
        have q : (putK acc (.inl (n : Int)) (.int (s : Int))).map (·.1) = acc.map (·.1) := by
          unfold putK
          have : (acc.any fun kv => decide (kv.1 = (.inl (n : Int)))) = true := by
            unfold valV at e
            cases e2 : acc.find? (fun kv => decide (kv.1 = (Sum.inl (n : Int)))) with
            | none => rw [e2] at e; cases e
            | some kv =>
              have := List.find?_some e2
              exact List.any_eq_true.mpr ⟨kv, List.mem_of_find?_eq_some e2, this⟩
          simp only [this, if_true, List.map_map]
          apply List.map_congr_left
          intro kv _
          dsimp only [Function.comp]
          by_cases c : kv.1 = Sum.inl (n : Int)
          · simp [c]
          · simp [c]
        rw [q]
        exact h
    | _ => exact h
theorem nodup_get : ∀ {kvs : List (Key × V)}, (kvs.map (·.1)).Nodup → ∀ p ∈ kvs, valV kvs p.1 = some p.2
  | [], _, p, hp => by cases hp
  | q :: kvs, h, p, hp => by
    rw [List.map_cons, List.nodup_cons] at h
    unfold valV
    rw [List.find?_cons]
    by_cases c : q.1 = p.1
    · rw [show decide (q.1 = p.1) = true from decide_eq_true c]
      rcases List.mem_cons.mp hp with rfl | hp
      · rfl
      · exact absurd (by rw [c]; exact List.mem_map_of_mem hp) h.1
    · rw [show decide (q.1 = p.1) = false from decide_eq_false c]
      rcases List.mem_cons.mp hp with rfl | hp
      · exact absurd rfl c
      · exact nodup_get h.2 p hp
/-! ### places -/
def S (F : Nat → Bool) (ls : List Ln) (i : Nat) : Nat := ((szs F 0 ls).take i).sum
def lastLab (g : Nat) : List Ln → Option Nat
  | [] => none
  | l :: r => match lastLab g r with
    | some j => some (j + 1)
    | none => if l = .lab g then some 0 else none
theorem labPos_eq (g : Nat) (F : Nat → Bool) : ∀ (ls : List Ln) (i s : Nat), labPos g s ls (szs F i ls) = (lastLab g ls).map fun j => s + ((szs F i ls).take j).sum
  | [], _, _ => rfl
  | l :: r, i, s => by
    unfold szs labPos lastLab
    rw [labPos_eq g F r (i + 1)]
    cases e : lastLab g r with
    | some j => simp [Nat.add_assoc]
    | none =>
      by_cases c : l = .lab g
      · simp [c]
      · simp [c]
theorem lastLab_lt (g : Nat) : ∀ (ls : List Ln) (j : Nat), lastLab g ls = some j → j < ls.length
  | [], _, h => by cases h
  | l :: r, j, h => by
    unfold lastLab at h
    cases e : lastLab g r with
    | some k =>
      rw [e] at h
      injection h with h
      have := lastLab_lt g r k e
      simp only [List.length_cons]; omega
    | none =>
      rw [e] at h
      dsimp only at h
      split at h
      · injection h with h; simp only [List.length_cons]; omega
      · cases h
def dist (F : Nat → Bool) (ls : List Ln) (i g : Nat) : Int := (S F ls ((lastLab g ls).getD 0) : Int) - (S F ls i : Int)
def reach (d : Int) : Bool := decide (-1024 ≤ d) && decide (d ≤ 1023)
def fitsB (F : Nat → Bool) (ls : List Ln) : Prop := ∀ i o g, ls[i]? = some (.br o g) → F i = false → reach (dist F ls i g) = true
/-! more words never bring things nearer -/
theorem szs_le {F G : Nat → Bool} (h : ∀ i, F i = true → G i = true) : ∀ (ls : List Ln) (i k : Nat), (szs F i ls)[k]?.getD 0 ≤ (szs G i ls)[k]?.getD 0
  | [], _, _ => by simp [szs]
  | l :: r, i, 0 => by
    simp only [szs, List.getElem?_cons_zero, Option.getD_some]
    by_cases b : isBr l = true
    · have z : size0 l r = 1 := by cases l <;> first | rfl | cases b
      rw [b, z, Bool.true_and, Bool.true_and]
      cases f : F i with
      | true => rw [h i f]; exact Nat.le_refl _
      | false => cases G i <;> simp
    · have : isBr l = false := by simpa using b
      rw [this]
      simp
  | l :: r, i, k + 1 => by
    simp only [szs, List.getElem?_cons_succ]
    exact szs_le h r (i + 1) k
theorem sum_take_succ (xs : List Nat) (k : Nat) : (xs.take (k + 1)).sum = (xs.take k).sum + xs[k]?.getD 0 := by
  rw [List.take_add_one, List.sum_append]
  cases xs[k]? <;> simp
theorem sum_mono {xs ys : List Nat} (h : ∀ k : Nat, xs[k]?.getD 0 ≤ ys[k]?.getD 0) (i : Nat) : ∀ m, (xs.take (i + m)).sum + (ys.take i).sum ≤ (ys.take (i + m)).sum + (xs.take i).sum
  | 0 => by rw [Nat.add_zero, Nat.add_comm]; exact Nat.le_refl _
  | m + 1 => by
    have q := sum_mono h i m
    have e := h (i + m)
    rw [← Nat.add_assoc, sum_take_succ, sum_take_succ]
    omega
theorem sum_grow (xs : List Nat) (i : Nat) : ∀ m, (xs.take i).sum ≤ (xs.take (i + m)).sum
  | 0 => Nat.le_refl _
  | m + 1 => by
    have q := sum_grow xs i m
    rw [← Nat.add_assoc, sum_take_succ]
    omega
theorem S_mono {F G : Nat → Bool} (h : ∀ i, F i = true → G i = true) (ls : List Ln) {i j : Nat} (hij : i ≤ j) : S F ls j + S G ls i ≤ S G ls j + S F ls i ∧ S F ls i ≤ S F ls j := by
  obtain ⟨m, rfl⟩ := Nat.exists_eq_add_of_le hij
  exact ⟨sum_mono (szs_le h ls 0) i m, sum_grow _ i m⟩
theorem reach_mono {F G : Nat → Bool} (h : ∀ i, F i = true → G i = true) {ls : List Ln} {i g : Nat} (r : reach (dist G ls i g) = true) : reach (dist F ls i g) = true := by
  unfold reach dist at *
  rw [Bool.and_eq_true, decide_eq_true_eq, decide_eq_true_eq] at *
  rcases Nat.le_total i ((lastLab g ls).getD 0) with c | c
  · obtain ⟨a, b⟩ := S_mono h ls c
    omega
  · obtain ⟨a, b⟩ := S_mono h ls c
    obtain ⟨a', b'⟩ := S_mono (F := G) (G := G) (fun _ z => z) ls c
    omega
/-! ### branches, in their order -/
def brs (ls : List Ln) : List Nat := (List.range ls.length).filter fun i => isBr (ls.getD i .nop)
theorem mem_brs {ls : List Ln} {i : Nat} : i ∈ brs ls ↔ ∃ o g, ls[i]? = some (.br o g) := by
  unfold brs
  rw [List.mem_filter, List.mem_range]
  constructor
  · rintro ⟨h, b⟩
    have e : ls[i]? = some ls[i] := List.getElem?_eq_getElem h
    rw [List.getD_eq_getElem?_getD, e, Option.getD_some] at b
    cases q : ls[i] with
    | br o g => exact ⟨o, g, by rw [e, q]⟩
    | _ => rw [q] at b; cases b
  · rintro ⟨o, g, e⟩
    have h : i < ls.length := by
      by_cases c : i < ls.length
      · exact c
      · rw [List.getElem?_eq_none (by omega)] at e; cases e
    exact ⟨h, by rw [List.getD_eq_getElem?_getD, e]; rfl⟩
theorem brs_nodup (ls : List Ln) : (brs ls).Nodup := List.Pairwise.filter _ List.nodup_range
theorem brs_sorted (ls : List Ln) : (brs ls).Pairwise (· < ·) := List.Pairwise.filter _ List.pairwise_lt_range
/-- all that is known of what long_branches tells -/
structure Best (ls : List Ln) (F : Nat → Bool) : Prop where
  sub : ∀ i, F i = true → i ∈ brs ls
  fit : fitsB F ls
  least : ∀ G : Nat → Bool, fitsB G ls → ∀ i, F i = true → G i = true
/-! one look at all branches, at the places of F: what comes to be long -/
structure Look (ls : List Ln) (F F' : Nat → Bool) (t : Nat) : Prop where
  more : ∀ i, F i = true → F' i = true
  sub : ∀ i, F' i = true → i ∈ brs ls
  low : ∀ G : Nat → Bool, fitsB G ls → (∀ i, F i = true → G i = true) → ∀ i, F' i = true → G i = true
  done : (∀ i, F' i = true → F i = true) → ∀ k, k < t → ∀ i, (brs ls)[k]? = some i → ∀ o g, ls[i]? = some (.br o g) → F i = false → reach (dist F ls i g) = true
theorem Look.start {ls : List Ln} {F : Nat → Bool} (h : ∀ i, F i = true → i ∈ brs ls) : Look ls F F 0 := ⟨fun _ z => z, h, fun _ _ z => z, fun _ k hk => absurd hk (by omega)⟩
/-- a branch is left as it is -/
theorem Look.keep {ls : List Ln} {F F' : Nat → Bool} {t i o g : Nat} (L : Look ls F F' t) (hi : (brs ls)[t]? = some i) (hl : ls[i]? = some (.br o g)) (h : F' i = true ∨ reach (dist F ls i g) = true) : Look ls F F' (t + 1) :=
  ⟨L.more, L.sub, L.low, fun z k hk j hj o' g' e f => by
    by_cases c : k < t
    · exact L.done z k c j hj o' g' e f
    · have : k = t := by omega
      subst this
      rw [hi] at hj
      injection hj with hj
      subst hj
      rw [hl] at e
      injection e with e
      injection e with e1 e2
      subst e1 e2
      rcases h with h | h
      · rw [z i h] at f; cases f
      · exact h⟩
/-- a branch comes to be long -/
theorem Look.put {ls : List Ln} {F F' : Nat → Bool} {t i o g : Nat} (L : Look ls F F' t) (hi : (brs ls)[t]? = some i) (hl : ls[i]? = some (.br o g)) (hF : F' i = false) (h : reach (dist F ls i g) = false) : Look ls F (fun j => decide (j = i) || F' j) (t + 1) := by
  refine ⟨fun j z => by rw [Bool.or_eq_true]; exact Or.inr (L.more j z), fun j z => ?_, fun G q s j z => ?_, fun z => ?_⟩
  · rw [Bool.or_eq_true, decide_eq_true_eq] at z
    rcases z with rfl | z
    · exact mem_brs.mpr ⟨o, g, hl⟩
    · exact L.sub j z
  · rw [Bool.or_eq_true, decide_eq_true_eq] at z
    rcases z with rfl | z
    · cases e : G j with
      | true => rfl
      | false =>
        have := reach_mono s (q j o g hl e)
        rw [h] at this; cases this
    · exact L.low G q s j z
  · have a := z i (by simp)
    rw [L.more i a] at hF
    cases hF
theorem Look.best {ls : List Ln} {F F' : Nat → Bool} (L : Look ls F F' (brs ls).length) (hm : ∀ G : Nat → Bool, fitsB G ls → ∀ i, F i = true → G i = true) (z : ∀ i, F' i = true → F i = true) : Best ls F := by
  refine ⟨fun i h => L.sub i (L.more i h), fun i o g e f => ?_, hm⟩
  obtain ⟨k, hk, q⟩ := List.getElem_of_mem (mem_brs.mpr ⟨o, g, e⟩)
  exact L.done z k hk i (by rw [List.getElem?_eq_getElem hk, q]) o g e f
theorem Look.least {ls : List Ln} {F F' : Nat → Bool} {t : Nat} (L : Look ls F F' t) (hm : ∀ G : Nat → Bool, fitsB G ls → ∀ i, F i = true → G i = true) : ∀ G : Nat → Bool, fitsB G ls → ∀ i, F' i = true → G i = true := fun G q i z => L.low G q (hm G q) i z
end K70

namespace K70
open PySem PyProof.Rows L2 My
open Builtin (bitAnd bitOr)
/-! ### words of branches and jumps -/
theorem and_disj : ∀ (k : Nat) (a b : Int), a % 2 ^ k = 0 → 0 ≤ b → b < 2 ^ k → bitAnd a b = 0
  | 0, a, b, _, h0, h1 => by
    have : b = 0 := by
      have : (2 : Int) ^ 0 = 1 := by decide
      omega
    subst this
    exact bitAnd_zero a
  | k + 1, a, b, h, h0, h1 => by
    have e : (2 : Int) ^ (k + 1) = 2 * 2 ^ k := by rw [Int.pow_succ, Int.mul_comm]
    rw [e] at h h1
    have hp : (0 : Int) < 2 ^ k := Int.pow_pos (by decide)
    obtain ⟨q, hq⟩ : ∃ q, a = 2 * 2 ^ k * q := ⟨a / (2 * 2 ^ k), by have := Int.mul_ediv_add_emod a (2 * 2 ^ k); rw [h, Int.add_zero] at this; exact this.symm⟩
    have ha : a % 2 = 0 := by rw [hq, Int.mul_assoc]; exact Int.mul_emod_right _ _
    have ha2 : a / 2 = 2 ^ k * q := by rw [hq, Int.mul_assoc]; exact Int.mul_ediv_cancel_left _ (by decide)
    rw [PySem.W.kbt_halves a b, and_disj k (a / 2) (b / 2) (by rw [ha2]; exact Int.mul_emod_right _ _) (by omega) (by omega), if_neg (by omega)]
    rfl
theorem and_shift : ∀ (k : Nat) (x p : Int), bitAnd x (p * 2 ^ k) = bitAnd (x / 2 ^ k) p * 2 ^ k
  | 0, x, p => by
    have : (2 : Int) ^ 0 = 1 := by decide
    rw [this, Int.mul_one, Int.mul_one, Int.ediv_one]
  | k + 1, x, p => by
    have e : (2 : Int) ^ (k + 1) = 2 ^ k * 2 := Int.pow_succ ..
    have e2 : p * (2 ^ k * 2) = 2 * (p * 2 ^ k) := by rw [← Int.mul_assoc, Int.mul_comm]
    rw [e, e2, PySem.W.kbt_halves, Int.mul_ediv_cancel_left _ (by decide), and_shift k (x / 2) p, if_neg (by omega), Int.ediv_ediv_of_nonneg (by decide), Int.mul_comm 2 ((2 : Int) ^ k), Int.add_zero, Int.mul_comm 2, Int.mul_assoc]
/-- a field where there is nothing yet -/
theorem or_field (m k : Nat) {x p : Int} (h : (x / 2 ^ k) % 2 ^ m = 0) (h0 : 0 ≤ p) (h1 : p < 2 ^ m) : bitOr x (p * 2 ^ k) = x + p * 2 ^ k := by
  rw [bitOr_and, and_shift, and_disj m _ _ h h0 h1, Int.zero_mul, Int.sub_zero]
theorem or_fieldL (m k : Nat) {M D x p : Int} (hM : (2 : Int) ^ m = M) (hD : (2 : Int) ^ k = D) (h : (x / D) % M = 0) (h0 : 0 ≤ p) (h1 : p < M) : bitOr x (p * D) = x + p * D := by
  subst hM hD
  exact or_field m k h h0 h1
theorem p31 : (2 : Int) ^ 31 = 2147483648 := by decide
theorem p25 : (2 : Int) ^ 25 = 33554432 := by decide
theorem p21 : (2 : Int) ^ 21 = 2097152 := by decide
theorem p20 : (2 : Int) ^ 20 = 1048576 := by decide
theorem p15 : (2 : Int) ^ 15 = 32768 := by decide
theorem p12 : (2 : Int) ^ 12 = 4096 := by decide
theorem p11 : (2 : Int) ^ 11 = 2048 := by decide
theorem p10 : (2 : Int) ^ 10 = 1024 := by decide
theorem p8 : (2 : Int) ^ 8 = 256 := by decide
theorem p7 : (2 : Int) ^ 7 = 128 := by decide
theorem p6 : (2 : Int) ^ 6 = 64 := by decide
theorem p5 : (2 : Int) ^ 5 = 32 := by decide
theorem p4 : (2 : Int) ^ 4 = 16 := by decide
theorem p3 : (2 : Int) ^ 3 = 8 := by decide
theorem p1 : (2 : Int) ^ 1 = 2 := by decide
def opns : List Str := ["beq", "bne", "blt", "bge", "bltu", "bgeu"]
def opn (o : Nat) : Str := opns.getD o ""
def prt (o : Nat) : Int := ([0, 1, 4, 5, 6, 7] : List Int).getD o 0
def trn (o : Nat) : Nat := ([1, 0, 3, 2, 5, 4] : List Nat).getD o 0
theorem prt_ok : ∀ o, o < 6 → 0 ≤ prt o ∧ prt o < 8 := by decide
theorem trn_ok : ∀ o, o < 6 → trn o < 6 := by decide
def wB0 (d : Int) : Int := bitOr (bitOr (bitOr (bitOr (bitOr (bitAnd (d / 2 ^ 12) 1 * 2 ^ 31) (bitAnd (d / 2 ^ 5) 63 * 2 ^ 25)) (11 * 2 ^ 20)) (10 * 2 ^ 15)) (bitAnd (d / 2 ^ 1) 15 * 2 ^ 8)) (bitAnd (d / 2 ^ 11) 1 * 2 ^ 7)
def fin (x l p f : Int) : Int := bitOr (bitOr (bitOr x l) (p * 2 ^ 12)) (f * 2 ^ 25)
def wB (o : Nat) (d : Int) : Int := fin (wB0 d) 99 (prt o) 0
def wJ0 (d : Int) : Int := bitOr (bitOr (bitOr (bitOr (bitAnd (d / 2 ^ 20) 1 * 2 ^ 31) (bitAnd (d / 2 ^ 1) 1023 * 2 ^ 21)) (bitAnd (d / 2 ^ 11) 1 * 2 ^ 20)) (bitAnd (d / 2 ^ 12) 255 * 2 ^ 12)) (0 * 2 ^ 7)
def wJ (d : Int) : Int := fin (wJ0 d) 111 0 0
def sgn (n h : Int) : Int := if h ≤ n then n - 2 * h else n
def rB (w : Int) : Int := bitOr (bitOr (bitOr (w / 2 ^ 31 * 2 ^ 12) (bitAnd (w / 2 ^ 7) 1 * 2 ^ 11)) (bitAnd (w / 2 ^ 25) 63 * 2 ^ 5)) (bitAnd (w / 2 ^ 8) 15 * 2 ^ 1)
def rJ (w : Int) : Int := bitOr (bitOr (bitOr (w / 2 ^ 31 * 2 ^ 20) (bitAnd (w / 2 ^ 12) 255 * 2 ^ 12)) (bitAnd (w / 2 ^ 20) 1 * 2 ^ 11)) (bitAnd (w / 2 ^ 21) 1023 * 2 ^ 1)
theorem m1 (x : Int) : bitAnd x 1 = x % 2 := bitAnd_m1 x
theorem m4 (x : Int) : bitAnd x 15 = x % 16 := bitAnd_m4 x
theorem m6 (x : Int) : bitAnd x 63 = x % 64 := bitAnd_m6 x
theorem m8 (x : Int) : bitAnd x 255 = x % 256 := bitAnd_m8 x
theorem m10 (x : Int) : bitAnd x 1023 = x % 1024 := PySem.W.kbt_mask x 10
theorem or0 (x : Int) (k : Nat) : bitOr x (0 * 2 ^ k) = x := by rw [Int.zero_mul, bitOr_and, bitAnd_zero, Int.add_zero, Int.sub_zero]
theorem or_low (m : Nat) {x p : Int} (h : x % 2 ^ m = 0) (h0 : 0 ≤ p) (h1 : p < 2 ^ m) : bitOr x p = x + p := by
  have := or_field m 0 (x := x) (p := p) (by rw [show (2 : Int) ^ 0 = 1 from by decide, Int.ediv_one]; exact h) h0 h1
  rw [show (2 : Int) ^ 0 = 1 from by decide, Int.mul_one] at this
  exact this
theorem wB_eq {o : Nat} (ho : o < 6) (d : Int) : wB o d = (d / 4096 % 2) * 2147483648 + (d / 32 % 64) * 33554432 + 11534336 + 327680 + (d / 2 % 16) * 256 + (d / 2048 % 2) * 128 + 99 + prt o * 4096 := by
  have hp := prt_ok o ho
  unfold wB fin wB0
  rw [m1, m1, m4, m6, or0, p31, p25, p20, p15, p12, p11, p8, p7, p5, p1]
  have h12 : 0 ≤ d / 4096 % 2 ∧ d / 4096 % 2 < 2 := by omega
  have h5 : 0 ≤ d / 32 % 64 ∧ d / 32 % 64 < 64 := by omega
  have h1 : 0 ≤ d / 2 % 16 ∧ d / 2 % 16 < 16 := by omega
  have h11 : 0 ≤ d / 2048 % 2 ∧ d / 2048 % 2 < 2 := by omega
  generalize d / 4096 % 2 = f12 at *
  generalize d / 32 % 64 = f5 at *
  generalize d / 2 % 16 = f1 at *
  generalize d / 2048 % 2 = f11 at *
  generalize prt o = p at *
  rw [or_fieldL 6 25 p6 p25 (by omega) (by omega) (by omega), or_fieldL 5 20 p5 p20 (by omega) (by omega) (by omega), or_fieldL 5 15 p5 p15 (by omega) (by omega) (by omega), or_fieldL 4 8 p4 p8 (by omega) (by omega) (by omega), or_fieldL 1 7 p1 p7 (by omega) (by omega) (by omega)]
  rw [or_low 7 (p := 99) (by omega) (by omega) (by omega), or_fieldL 3 12 p3 p12 (by omega) (by omega) (by omega)]
  omega
theorem wJ_eq (d : Int) : wJ d = (d / 1048576 % 2) * 2147483648 + (d / 2 % 1024) * 2097152 + (d / 2048 % 2) * 1048576 + (d / 4096 % 256) * 4096 + 111 := by
  unfold wJ fin wJ0
  rw [m1, m1, m8, m10, or0, or0, or0, p31, p21, p20, p12, p11, p1]
  have h20 : 0 ≤ d / 1048576 % 2 ∧ d / 1048576 % 2 < 2 := by omega
  have h1 : 0 ≤ d / 2 % 1024 ∧ d / 2 % 1024 < 1024 := by omega
  have h11 : 0 ≤ d / 2048 % 2 ∧ d / 2048 % 2 < 2 := by omega
  have h12 : 0 ≤ d / 4096 % 256 ∧ d / 4096 % 256 < 256 := by omega
  generalize d / 1048576 % 2 = f20 at *
  generalize d / 2 % 1024 = f1 at *
  generalize d / 2048 % 2 = f11 at *
  generalize d / 4096 % 256 = f12 at *
  rw [or_fieldL 10 21 p10 p21 (by omega) (by omega) (by omega), or_fieldL 1 20 p1 p20 (by omega) (by omega) (by omega), or_fieldL 8 12 p8 p12 (by omega) (by omega) (by omega)]
  rw [or_low 7 (p := 111) (by omega) (by omega) (by omega)]
structure GoodB (o : Nat) (d : Int) : Prop where
  even : bitAnd d 1 = 0
  last : bitAnd (wB o d) 127 = 99
  part : bitAnd (wB o d / 2 ^ 12) 7 = prt o
  one : bitAnd (wB o d / 2 ^ 15) 31 = 10
  other : bitAnd (wB o d / 2 ^ 20) 31 = 11
  far : sgn (rB (wB o d)) 4096 = d
structure GoodJ (d : Int) : Prop where
  even : bitAnd d 1 = 0
  last : bitAnd (wJ d) 127 = 111
  one : bitAnd (wJ d / 2 ^ 7) 31 = 0
  far : sgn (rJ (wJ d)) 1048576 = d
structure FieldsB (w f12 f5 f1 f11 p : Int) : Prop where
  a : w % 128 = 99
  b : w / 4096 % 8 = p
  c : w / 32768 % 32 = 10
  d : w / 1048576 % 32 = 11
  e : w / 2147483648 = f12
  f : w / 128 % 2 = f11
  g : w / 33554432 % 64 = f5
  h : w / 256 % 16 = f1
theorem fieldsB {w f12 f5 f1 f11 p : Int} (h12 : 0 ≤ f12 ∧ f12 < 2) (h5 : 0 ≤ f5 ∧ f5 < 64) (h1 : 0 ≤ f1 ∧ f1 < 16) (h11 : 0 ≤ f11 ∧ f11 < 2) (hp : 0 ≤ p ∧ p < 8)
    (e : w = f12 * 2147483648 + f5 * 33554432 + 11534336 + 327680 + f1 * 256 + f11 * 128 + 99 + p * 4096) : FieldsB w f12 f5 f1 f11 p := by
  refine ⟨by omega, by omega, by omega, by omega, by omega, by omega, by omega, by omega⟩
theorem rB_eq {w f12 f5 f1 f11 : Int} (h12 : 0 ≤ f12 ∧ f12 < 2) (h5 : 0 ≤ f5 ∧ f5 < 64) (h1 : 0 ≤ f1 ∧ f1 < 16) (h11 : 0 ≤ f11 ∧ f11 < 2) (e : w / 2147483648 = f12) (f : w / 128 % 2 = f11) (g : w / 33554432 % 64 = f5) (h : w / 256 % 16 = f1) :
    rB w = f12 * 4096 + f11 * 2048 + f5 * 32 + f1 * 2 := by
  unfold rB
  rw [m1, m4, m6, show w / 2 ^ 31 = f12 from e, show w / 2 ^ 7 % 2 = f11 from f, show w / 2 ^ 25 % 64 = f5 from g, show w / 2 ^ 8 % 16 = f1 from h]
  clear e f g h
  rw [or_field 1 11 (by omega) (by omega) (by omega), or_field 6 5 (by omega) (by omega) (by omega), or_field 4 1 (by omega) (by omega) (by omega)]
  omega
theorem goodB {o : Nat} (ho : o < 6) {k : Int} (h1 : -1024 ≤ k) (h2 : k ≤ 1023) : GoodB o (4 * k) := by
  have e := wB_eq ho (4 * k)
  have F := fieldsB (by omega) (by omega) (by omega) (by omega) (prt_ok o ho) e
  have r := rB_eq (by omega) (by omega) (by omega) (by omega) F.e F.f F.g F.h
  refine ⟨by rw [m1]; omega, by rw [bitAnd_m7]; exact F.a, by rw [bitAnd_m3]; exact F.b, by rw [bitAnd_m5]; exact F.c, by rw [bitAnd_m5]; exact F.d, ?_⟩
  rw [r]
  clear e F r
  unfold sgn
  split <;> omega
structure FieldsJ (w f20 f1 f11 f12 : Int) : Prop where
  a : w % 128 = 111
  b : w / 128 % 32 = 0
  e : w / 2147483648 = f20
  f : w / 4096 % 256 = f12
  g : w / 1048576 % 2 = f11
  h : w / 2097152 % 1024 = f1
theorem fieldsJ {w f20 f1 f11 f12 : Int} (h20 : 0 ≤ f20 ∧ f20 < 2) (h1 : 0 ≤ f1 ∧ f1 < 1024) (h11 : 0 ≤ f11 ∧ f11 < 2) (h12 : 0 ≤ f12 ∧ f12 < 256)
    (e : w = f20 * 2147483648 + f1 * 2097152 + f11 * 1048576 + f12 * 4096 + 111) : FieldsJ w f20 f1 f11 f12 := by
  refine ⟨by omega, by omega, by omega, by omega, by omega, by omega⟩
theorem rJ_eq {w f20 f1 f11 f12 : Int} (h20 : 0 ≤ f20 ∧ f20 < 2) (h1 : 0 ≤ f1 ∧ f1 < 1024) (h11 : 0 ≤ f11 ∧ f11 < 2) (h12 : 0 ≤ f12 ∧ f12 < 256) (e : w / 2147483648 = f20) (f : w / 4096 % 256 = f12) (g : w / 1048576 % 2 = f11) (h : w / 2097152 % 1024 = f1) :
    rJ w = f20 * 1048576 + f12 * 4096 + f11 * 2048 + f1 * 2 := by
  unfold rJ
  rw [m1, m8, m10, show w / 2 ^ 31 = f20 from e, show w / 2 ^ 12 % 256 = f12 from f, show w / 2 ^ 20 % 2 = f11 from g, show w / 2 ^ 21 % 1024 = f1 from h]
  clear e f g h
  rw [or_field 8 12 (by omega) (by omega) (by omega), or_field 1 11 (by omega) (by omega) (by omega), or_field 10 1 (by omega) (by omega) (by omega)]
  omega
theorem goodJ {k : Int} (h1 : -100000 ≤ k) (h2 : k ≤ 100000) : GoodJ (4 * k) := by
  have e := wJ_eq (4 * k)
  have F := fieldsJ (by omega) (by omega) (by omega) (by omega) e
  have r := rJ_eq (by omega) (by omega) (by omega) (by omega) F.e F.f F.g F.h
  refine ⟨by rw [m1]; omega, by rw [bitAnd_m7]; exact F.a, by rw [bitAnd_m5]; exact F.b, ?_⟩
  rw [r]
  clear e F r
  unfold sgn
  split <;> omega
end K70

namespace Kg
open PySem PySem.Spec PyProof.Rows L2
/-- a comprehension goes to a name that inner blocks read: nothing is swapped -/
theorem sw_cell {elt : Expr} {gs : List Comprehension} {scope : Scope} {pos py : Pos} {y : Str} {l : Nat} {env : Env} (hy : env.scope.names.lookup y = some .cell) :
    swapsWith (.ListComp elt gs scope pos) (some (.Name y py)) l env = pure false := by
  have ky : env.kindOf y = some .cell := hy
  unfold swapsWith
  simp only [ky]
  cases h : (env.blockKind == ScopeKind.function) <;> rfl
/-- what e gives is a dict (a list) that from here on is only read -/
def tLockE (td : TE) : TE := fun σ H Q => td σ H fun x H1 => ∃ d u, x = .ref d ∧ H1 d = some u ∧ Mut (some u) ∧ ∀ o, Q x (upd H1 d (.frz o u))
theorem pe_locked {X : Cx} {e : Expr} {td : TE} (he : PE X e td) : PE X e (tLockE td) := by
  refine ⟨fun pins s σ H Q I hw => ?_⟩
  refine thn (he.run pins s σ H _ I hw) fun u s1 ⟨x, H1, I1, rx, d, v, ex, hd, mu, q⟩ => ?_
  obtain ⟨o, I2⟩ := I1.lock hd mu
  exact ⟨x, _, I2, rx, q o⟩
end Kg

namespace Ru
open PySem PySem.Spec PyProof.Rows L2 My
theorem if_true_of {c : Bool} {A B : Prop} (hc : c = true) (h : A) : if c = true then A else B := by
  rw [if_pos hc]
  exact h
theorem if_false_of {c : Bool} {A B : Prop} (hc : c = false) (h : B) : if c = true then A else B := by
  rw [hc, if_neg Bool.false_ne_true]
  exact h
theorem small_lists : (4000000 : Nat) < sizeLine := by rw [sizeLine_eq]; decide
theorem tup_le {n : Nat} (h : n ≤ 4000000) : n ≤ sizeLine := Nat.le_of_lt (Nat.lt_of_le_of_lt h small_lists)
theorem tup_lt {n : Nat} (h : n < 4000000) : n < sizeLine := Nat.lt_of_le_of_lt (Nat.le_of_lt h) small_lists
theorem ty_lst {K : PySem.W.Frag} {H : Hp} {p : Addr} {xs : List V} (h : H p = some (.lst xs)) : tyV K "list" (.ref p) H := .inl ⟨rfl, xs, SqL.of h⟩
theorem tru_lst {K : PySem.W.Frag} {H : Hp} {p : Addr} {xs : List V} (h : H p = some (.lst xs)) : TruV K (.ref p) H (!xs.isEmpty) := .inl ⟨xs, SqL.of h, rfl⟩
theorem pe_mkG0 {X : Cx} {CX : CXT} {k : Nat} {C : Addr} {x : Str} {ps : List Str} {sp : Sp} {E : XK} {p pos : Pos} (h : Gm X.prog X.w X.K X.mg X.base CX k C "__init__" ps sp) (M : PySem.W.makesIn X.K C = true ∧ PySem.W.keepIn X.K (.ref C) = true) (hm : X.mg x = some (.ref C)) (hr : Room (k + 1) X.A) (hx : Passes CX X E) (hg : Gl X x := by rfl)
    (hdb : (x == ("__debug__" : Str)) = false := by decide) : PE X (.Call (.Name x p) [] [] pos) (tMake C sp [] E tNil) := by
  obtain ⟨f, fd, m, F, b⟩ := h.ex
  exact pe_make0 ⟨M.1, m.at_, m.fn, M.2⟩ F hr hg hm b .nil hx hdb
/-- a local name holds one of these defs -/
def Held (P : Program) (w : World) (K : PySem.W.Frag) (mg : Str → Option Value) (base : Heap) (CX : CXT) (k : Nat) (f : Addr) (sp : Sp) : Prop :=
  ∃ (fd : FuncData) (ps : List Str), FnOk P w K mg base CX k f fd ps sp ∧ PySem.W.keepIn K (.ref f) = true ∧ Binds K fd ps []
theorem held_of {P : Program} {w : World} {K : PySem.W.Frag} {mg : Str → Option Value} {base : Heap} {CX : CXT} {j k : Nat} {x : Str} {ps : List Str} {sp : Sp} (h : Gd P w K mg base CX j x ps sp) (hjk : j ≤ k) {f : Addr} (hf : mg x = some (.ref f)) : Held P w K mg base CX k f sp := by
  obtain ⟨f', fd, m, F, b, kp, _⟩ := h.ex
  rw [m] at hf
  cases hf
  exact ⟨fd, ps, F.mono hjk, kp, b⟩
def tHeld (i : Nat) (Sf : Addr → Sp → Prop) (E : XK) (t : TA) : TE := fun σ H Q => ∃ f sp, σ[i]? = some (some (.ref f)) ∧ Sf f sp ∧ t σ H fun vs H1 => sp vs H1 Q E
theorem pe_callV {X : Cx} {CX : CXT} {k i : Nat} {E : XK} {x : Str} {p pos : Pos} {e : Expr} {es : List Expr} {t : TA} {Sf : Addr → Sp → Prop} (A : ∀ f sp, Sf f sp → Held X.prog X.w X.K X.mg X.base CX k f sp) (hr : Room k X.A) (hN : X.N[i]? = some x) (hv : Vis X.env.scope x) (hx : Passes CX X E) (ha : PA X (e :: es) t)
    (hdb : (x == ("__debug__" : Str)) = false := by decide) (hcd : (x == ("__classdict__" : Str)) = false := by decide)
    (he : starEach (e :: es) X.env = (false, eval e X.env) :: starEach es X.env := by rfl) (hpl : (backTo pos (starEach es X.env)).any (·.1) = false := by rfl) : PE X (.Call (.Name x p) (e :: es) [] pos) (tHeld i Sf E t) := by
  refine ⟨fun pins s σ H Q I hw => ?_⟩
  obtain ⟨f, sp, hs, hS, ht⟩ := hw
  obtain ⟨fd, ps, F, hk, hb⟩ := A f sp hS
  refine (pe_callL (i := i) (f := f) (sp := sp) (dvs := []) (E := E) F hr hN hv hk hb .nil hx ha hdb hcd he hpl).run pins s σ H Q I ⟨hs, ?_⟩
  have e0 : (fun (vs : List V) (H1 : Hp) => sp (vs ++ []) H1 Q E) = fun vs H1 => sp vs H1 Q E := by
    funext vs H1
    rw [List.append_nil]
  show t σ H (fun vs H1 => sp (vs ++ []) H1 Q E)
  rw [e0]
  exact ht
end Ru

namespace Bf
open PySem PySem.W PySem.Calls PyProof.Rows
open Bt (exB plainExc fld_first ldC)
/-! ### BadForm: what the written part says of it; its __init__ -/
def iA (p1 p2 : Pos) : Arguments := { posonlyargs := [], args := [{ arg := "self", annotation := none, pos := p1 }, { arg := "thing", annotation := none, pos := p2 }], vararg := none, kwonlyargs := [], kw_defaults := [], kwarg := none, defaults := [] }
def iB (q1 q2 q3 q4 : Pos) : List Stmt := [.Assign [.Attribute (.Name "self" q1) "thing" q2] (.Name "thing" q3) q4]
def iS : Scope := { kind := .function, names := [(PySem.Str.ofString "self", .local), (PySem.Str.ofString "thing", .local)], isGenerator := false, isCoroutine := false, more := [] }
structure BfTxt (K : Frag) (mg : Str → Option Value) (C fI : Addr) : Prop where
  gC : mg "BadForm" = some (.ref C)
  exI : excInitIn K C exB "Exception.__new__" = true
  over : excOver K C exB = true
  cd : ∃ cd, clsIn K C = some cd ∧ cd.hasDict = true
  sa : findIn K (.ref C) "__setattr__" = some (some (.builtin "object.__setattr__"))
  ga : findIn K (.ref C) "__getattribute__" = some (some (.builtin "BaseException.__getattribute__"))
  gg : findIn K (.ref C) "__getattr__" = some none
  noT : findIn K (.ref C) "thing" = some none
  iC : findIn K (.ref C) "__init__" = some (some (.ref fI))
  tC : typeIn K (.ref fI) = some (.type "function")
  kC : keepIn K (.ref C) = true
  exC : subIn K (.ref C) (.type "BaseException") = some true
  tyC : typeIn K (.ref C) = some (.type "type")
  hdC : hasDictIn K C = true
  te : exmOne K (.ref C) (.ref C) = some true
  fn : ∃ (oc : Value) (od : Option Addr) (kV doc pm : Value) (an : Option Addr) (cdv ct : Value) (osl : Array (Option Value)) (p1 p2 q1 q2 q3 q4 : Pos),
    K.lookup fI = some ⟨oc, od, .func (fnOf "__init__" "BadForm.__init__" (iA p1 p2) (iB q1 q2 q3 q4) iS .none kV doc pm an cdv ct), osl⟩ ∧ codeIn K cdv "BadForm.__init__" = true
theorem one_size (v : Value) : [v].length ≤ sizeLine := by
  rw [sizeLine_eq]
  exact (by decide : 1 ≤ 16777216)
def two (l : Value) : Str → Option Value := fun y => if y = "thing" then some l else none
/-- what __init__ leaves of a fresh exception at x -/
structure InitEnd (h h' : Heap) (x C dx t1 : Addr) (l : Value) : Prop where
  keep : ∀ b o, b ≠ x → h.get? b = some o → h'.get? b = some o
  obj : h'.get? x = some (plainExc C t1 (some dx))
  dbig : h.objs.size ≤ dx
  dne : dx ≠ x
  ns : h'.Ns1 dx (two l)
/-- a made BadForm -/
structure OwnMade (h h' : Heap) (e C d : Addr) (l : Value) : Prop where
  keep : ∀ b o, h.get? b = some o → h'.get? b = some o
  new : h.objs.size ≤ e
  obj : ∃ oe vs, h'.get? e = some oe ∧ oe.cls = .ref C ∧ oe.dict = some d ∧ oe.data = .fields vs ∧ vs[1]? = some .none
  dbig : h.objs.size ≤ d
  dne : d ≠ e
  ns : h'.Ns1 d (two l)
section
variable {prog : Program} {w : World} {A : Around} {E : Value → Shared → Prop} {R : Result → Shared → Prop} {s : Shared} {K : Frag} {mg : Str → Option Value} {C fI : Addr}
theorem bf_init (T : BfTxt K mg C fI) {x t0 : Addr} {l : Value} (X : K.In s.heap) (hlim : s.heap.NoLimit) (hx : s.heap.get? x = some (plainExc C t0 none)) (hnx : K.lookup x = none) (hroom : A.depth < recursionLimit)
    (hq : ∀ h' tk dx, InitEnd s.heap h' x C dx t0 l → R (.ok (.ret .none)) { s with heap := h', toks := tk }) :
    codeAny (model prog w) A (.call (.ref fI) ⟨[.ref x, l], []⟩) R s := by
  obtain ⟨oc, od, kV, doc, pm, an, cdv, ct, osl, p1, p2, q1, q2, q3, q4, ho, hcd⟩ := T.fn
  obtain ⟨cd, hcl, hhd⟩ := T.cd
  refine Att.call_fn (binds := [("self", .ref x), ("thing", l)]) X hlim ho hcd hroom (BindsTo.of_eq (by first | rfl | with_unfolding_all rfl)) (by first | rfl | decide | with_unfolding_all rfl) (fun s₁ IC => ?_) rfl rfl rfl
  obtain ⟨h₁, tk₁, rfl⟩ := IC.toInCall.same
  have k : ∀ b o, s.heap.get? b = some o → h₁.get? b = some o := IC.toInCall.keep
  have hn := IC.toInCall.ns
  have hLx : s.heap.objs.size ≠ x := Nat.ne_of_gt (Heap.lt_size hx)
  have X₁ : K.In h₁ := X.keeps k
  have hx₁ := k _ _ hx
  have z : s.heap.objs.size < h₁.objs.size := hn.lt
  -- self.line = line
  show wpAny _ _ (execs _ _) _ _ _
  refine wpAny_execs_cons (plainObj_wpAny_Assign_Attribute ?_)
  refine ldC (v := l) hn (by first | rfl | with_unfolding_all rfl | kernel_rfl) (ldC (v := .ref x) hn (by first | rfl | with_unfolding_all rfl | kernel_rfl) ?_)
  refine set_plain X₁ (ox := plainExc C t0 none) (od := none) ⟨hx₁, rfl, rfl, trivial⟩ T.sa ?_
  refine fld_first X₁ hx₁ T.over hcl hhd T.noT (fun h₂ tk₂ dx k₂ dn dne hx₂ hn₂ => ?_)
  show wpAny _ _ (execs _ _) _ _ _
  exact wpAny_execs_nil (hq h₂ tk₂ dx ⟨fun b o hb e => k₂ b o hb (k b o e), hx₂, Nat.le_of_lt (Nat.lt_of_lt_of_le z dn), dne, hn₂⟩)
theorem bf_made (T : BfTxt K mg C fI) {l : Value} (X : K.In s.heap) (hlim : s.heap.NoLimit) (hroom : A.depth + 1 < recursionLimit)
    (hq : ∀ h' tk e d, OwnMade s.heap h' e C d l → R (.ok (.ret (.ref e))) { s with heap := h', toks := tk }) :
    codeAny (model prog w) A (.call (.ref C) ⟨[l], []⟩) R s := by
  obtain ⟨nm, N, q, bs, bm, hdct, sn, sub, ab, col, dd, k0, k1, k2, k3, k5, hC, hT⟩ := excInit_of X T.exI
  obtain ⟨hp, g, dr, tk, os⟩ := s
  have k : ∀ b o, hp.get? b = some o → ((hp.push (kdv_tup [l])).push (HandSPX.excO C hp.objs.size)).get? b = some o := fun b o e => Heap.get?_push_of_some _ (Heap.get?_push_of_some _ e)
  have hget : ((hp.push (kdv_tup [l])).push (HandSPX.excO C hp.objs.size)).get? (hp.objs.size + 1) = some (HandSPX.excO C hp.objs.size) := by heap_get
  have hnx : K.lookup (hp.objs.size + 1) = none := by
    cases e : K.lookup (hp.objs.size + 1) with
    | none => rfl
    | some o =>
      have z : hp.get? (hp.objs.size + 1) = some o := X _ _ e
      exact absurd (Nat.lt_of_succ_lt (Heap.lt_size z)) (Nat.lt_irrefl _)
  refine HandSPX.call_own PySem.F.excBase_Exception hT hC (looks_findIn X T.iC) (fun self => bind_fn X self T.tC) (one_size l) ?_
  refine bf_init (s := ⟨(hp.push (kdv_tup [l])).push (HandSPX.excO C hp.objs.size), g, dr, tk, os⟩) T (X.keeps k) (hlim.keeps k) hget hnx ?_ fun h' tk' dx ⟨k', hx, dn, dne, hns⟩ => ?_
  · show A.depth + 1 < recursionLimit
    exact hroom
  · have old : ∀ b o, hp.get? b = some o → h'.get? b = some o := fun b o e => k' b o (Nat.ne_of_lt (Nat.lt_succ_of_lt (Heap.lt_size e))) (k b o e)
    have z : hp.objs.size + 1 + 1 ≤ dx := by
      first
        | (simpa only [Heap.size_push] using dn)
        | exact dn
        | (have q := dn; rw [Heap.size_push, Heap.size_push] at q; exact q)
    exact ⟨rfl, hq h' tk' (hp.objs.size + 1) dx ⟨old, Nat.le_succ _, ⟨_, _, hx, rfl, rfl, rfl, rfl⟩, Nat.le_trans (Nat.le_trans (Nat.le_succ _) (Nat.le_succ _)) z, dne, hns⟩⟩
end
end Bf
namespace L2
open PySem PySem.Spec PyProof.Rows
def bfFs (v : V) : List (Str × V) := [("thing", v)]
theorem bf_thing (v : V) : (bfFs v).lookup ("thing" : Str) = some v := by
  unfold bfFs
  simp only [List.lookup, beq_self_eq_true]
theorem bf_rel {v : V} {v' : Value} (r1 : RelV v v') (f : Str) : RelO ((bfFs v).lookup f) (Bf.two v' f) := by
  unfold Bf.two bfFs
  by_cases hc : f = "thing"
  · subst hc
    rw [if_pos rfl]
    have q : List.lookup ("thing" : Str) [(("thing" : Str), v)] = some v := by simp [List.lookup]
    rw [q]
    exact r1
  · rw [if_neg hc]
    have qc : (f == ("thing" : Str)) = false := by simpa using hc
    have q : List.lookup f [(("thing" : Str), v)] = none := by
      simp only [List.lookup, qc]
    rw [q]
    trivial
section
variable {X : Cx} {C fI : Addr}
theorem vals_one {v : V} {us : List Value} (r : Vals [v] us) : ∃ v', us = [v'] ∧ RelV v v' := by
  cases r with
  | cons rv rn =>
    rename_i v' us'
    cases rn
    exact ⟨v', rfl, rv⟩
/-- BadForm(e) -/
def tMkBf (C : Addr) (ta : TA) : St → Hp → XK → Prop := fun σ H Q => ta σ H fun vs H1 => ∃ v, vs = [v] ∧ ∀ d, H1 d = none → Q (.ref C) (some d) (upd H1 d (.xd (bfFs v)))
theorem pmk_bf {a : Expr} {ta : TA} {p pos : Pos} {k : Nat} (T : Bf.BfTxt X.K X.mg C fI) (hr : Room k X.A) (ha : PA X [a] ta) (hg : Gl X "BadForm" := by rfl)
    (he : starEach (a :: []) X.env = (false, eval a X.env) :: starEach [] X.env := by rfl) (hpl : (backTo pos (starEach [] X.env)).any (·.1) = false := by rfl) :
    PMk X (.Call (.Name "BadForm" p) [a] [] pos) (tMkBf C ta) := by
  intro pins s σ H Q I h
  refine wpAny_Call_Name_kw (ld_glob I hg T.gC ?_)
  refine PySem.W.callWith_K (h₀ := X.base) I.ok.mod.kin T.kC (thn (ha.run pos pins s σ H _ I h) fun us s1 hh => ?_) he hpl
  obtain ⟨vs, H1, I1, r1, v, ev, q1⟩ := hh
  subst ev
  refine ⟨I1.kIn, ?_⟩
  obtain ⟨v', rfl, rv⟩ := vals_one r1
  show wpAny _ _ (call (.ref C) [v']) _ _ _
  have hlim := I1.nolimit
  obtain ⟨hp, g, dr, tk, os⟩ := s1
  refine wpAny_call (Bf.bf_made T I1.kIn hlim (by have := hr.dp; omega) fun h' tk' e d M => ?_)
  show MkP X pins σ Q (.ref e) ⟨h', g, dr, tk', os⟩
  obtain ⟨oe, fv, hoe, hc, hd, hdat, h1⟩ := M.obj
  have hns := M.ns
  obtain ⟨G', g1, g2⟩ := restrict h' fun b => decide (b ≠ e)
  have gk : ∀ b, b ≠ e → G'.get? b = h'.get? b := fun b hb => g1 b (decide_eq_true hb)
  have ge : G'.get? e = none := g2 e (by simp)
  have old : ∀ b o, hp.get? b = some o → G'.get? b = some o := fun b o q => (gk b (Nat.ne_of_lt (Nat.lt_of_lt_of_le (Heap.lt_size q) M.new))).trans (M.keep b o q)
  have ob : ObjOk X.prog X.w (upd H1 d (.xd (bfFs v))) G' d (.xd (bfFs v)) :=
    ⟨_, hns.at (fun o q => (gk d M.dne).trans q), fun f => bf_rel rv f⟩
  have J : Inv X pins σ (upd H1 d (.xd (bfFs v))) ⟨G', g, dr, tk', os⟩ := I1.laid (t' := tk') old M.dbig ob
  refine ⟨e, oe, fv, ⟨G', g, dr, tk', os⟩, _, .ref C, some d, rfl, J, fun b o q => ?_, ge, hoe, ⟨hc, hd⟩, hdat, h1, ?_, rfl, I1.bare, raises_own T.exC T.tyC, q1 d (I1.hok.fresh M.dbig)⟩
  · by_cases hb : b = e
    · have q' : G'.get? b = some o := q
      rw [hb, ge] at q'; cases q'
    · exact (gk b hb).symm.trans q
  · rw [upd_ne (Ne.symm M.dne)]
    exact I1.hok.fresh M.new
/-- raise BadForm(e, e') -/
def tRaiseBf (C : Addr) (W : WX) (ta : TA) : TS := fun _ σ H => tMkBf C ta σ H fun cls d H' => W cls d σ H'
theorem ps_raiseBf {a : Expr} {ta : TA} {W : WX} {p pos pos2 : Pos} {k : Nat} (hc : X.calm = true) (T : Bf.BfTxt X.K X.mg C fI) (hr : Room k X.A) (tk : Takes X W) (ha : PA X [a] ta) (hg : Gl X "BadForm" := by rfl)
    (he : starEach (a :: []) X.env = (false, eval a X.env) :: starEach [] X.env := by rfl) (hpl : (backTo pos (starEach [] X.env)).any (·.1) = false := by rfl) :
    PS X (.Raise (some (.Call (.Name "BadForm" p) [a] [] pos)) none pos2) (tRaiseBf C W ta) := ps_raise hc tk (pmk_bf T hr ha hg he hpl)
/-- error.line, error.column, error the exception that the suite holds (at a; its class cls, its dict d) -/
def tFldBf (C : Addr) (f : Str) (a : Addr) (cls : Value) (d : Option Addr) (te : TE) : TE := fun σ H Q => te σ H fun x H1 => x = .ref a ∧ cls = .ref C ∧ ∃ (dd : Addr) (fs : List (Str × V)) (v : V), d = some dd ∧ H1 dd = some (.xd fs) ∧ fs.lookup f = some v ∧ Q v H1
theorem pe_fldBf {f : Str} {a : Addr} {oe : Obj} {cls : Value} {d : Option Addr} {pn : List (Addr × Obj)} {e : Expr} {te : TE} {pos : Pos} (T : Bf.BfTxt X.K X.mg C fI) (hn : PySem.W.findIn X.K (.ref C) f = some none) (hz : Zc cls d oe) (hf : ∃ vs, oe.data = .fields vs) (he : PE (X.suite a ((a, oe) :: pn)) e te)
    (hb : attributeBase e f X.env (eval e X.env) = eval e X.env := by rfl) :
    PE (X.suite a ((a, oe) :: pn)) (.Attribute e f pos) (tFldBf C f a cls d te) := by
  refine ⟨fun pins s σ H Q I h => ?_⟩
  refine attr_of hb (thn (he.run pins s σ H _ I h) fun u s1 hh => ?_)
  obtain ⟨x, H1, I1, rx, ex, ec, dd, fs, v, ed, ea, l, q⟩ := hh
  subst ex
  obtain rfl : u = Value.ref a := rx
  subst ec
  subst ed
  obtain ⟨ha, _⟩ := I1.pin (a, oe) (List.mem_append_left _ List.mem_cons_self)
  obtain ⟨vs, hd⟩ := hf
  have hx : ObjOk X.prog X.w H1 s1.heap dd (.xd fs) := I1.hok dd _ ea
  obtain ⟨mA, hns, hr⟩ := hx
  obtain ⟨od, ho, hl⟩ := lookIn_ns hns
  obtain ⟨u, hu, ru⟩ := RelO.some_of (v := v) (o := mA f) (by rw [← l]; exact hr f)
  have J : PySem.W.InstAt s1.heap a oe C (some od) := ⟨ha, hz.1, by unfold PySem.W.notCls; rw [hd] <;> rfl, by rw [hz.2]; exact ho⟩
  exact HandSPX.exc_get I1.kIn J T.ga T.gg T.exC (PySem.W.findObj_own T.hdC hn rfl (by rw [hl, hu])) (handed_of ru) ⟨v, H1, I1.tok _, ru, q⟩
end
end L2

namespace Kg
open PySem PySem.Spec PyProof.Rows L2
/-- d.get(k, x) of a written dict with int keys: found, or not -/
def tKGetO (d : Addr) (es : Array DictEntry) (td ty tx : TE) : TE := fun σ H Q => td σ H fun x H1 => x = .ref d ∧ ty σ H1 fun y H2 => tx σ H2 fun z H3 => ∃ (k : Int), y = .int k ∧
  ((findBy Value.isInt es k = none ∧ Q z H3) ∨ ∃ (u : Value) (v : V), findBy Value.isInt es k = some u ∧ RelV v u ∧ Q v H3)
theorem pe_kgetO {X : Cx} {o e f : Expr} {apos cpos : Pos} {td ty tx : TE} {d : Addr} {es : Array DictEntry} {n : Nat} (D : KInt X.K d es n) (ho : PE X o td) (he : PE X e ty) (hf : PE X f tx) (m : M2 X o "get" apos e f cpos) :
    PE X (.Call (.Attribute o "get" apos) [e, f] [] cpos) (tKGetO d es td ty tx) := by
  refine ⟨fun pins s σ H Q I hw => ?_⟩
  refine wpAny_Call_method m.base m.few m.line PySem.F.plainAttrs_dict PySem.F.slot_dict_get PySem.F.type_dict_get (thn (ho.run pins s σ H _ I hw) fun u s1 ⟨x, H1, I1, rx, ex, q1⟩ => ?_)
  subst ex
  obtain rfl : u = Value.ref d := rx
  have M1 := D.map (prog := X.prog) (w := X.w) I1.kIn
  refine ⟨M1.typeIs, fun b q => ?_, ?_⟩
  · cases q
    exact ⟨_, I1.kIn _ _ D.at_, rfl⟩
  rw [m.trees]
  refine Calls.callWith_builtin rfl (Calls.evalArgs_plain (Calls.spliced_cons (thn (he.run pins s1 σ H1 _ I1 q1) fun kv s2 ⟨y, H2, I2, ry, q2⟩ =>
    Calls.spliced_cons (thn (hf.run pins s2 σ H2 _ I2 q2) fun fv s3 ⟨z, H3, I3, rz, k, ey, hk⟩ => Calls.spliced_nil ?_))))
  subst ey
  obtain ⟨t, rfl⟩ := ry
  have M3 := D.map (prog := X.prog) (w := X.w) I3.kIn
  rcases hk with ⟨hk, q3⟩ | ⟨u, v, hk, ru, q3⟩
  · refine call_meetsIn PySem.F.slot_dict_get M3.typeIs PySem.F.entry_dict_get (PySem.F.args_dict_get_3 _ _ _) (meets_dict_get_default (intKind X.prog X.w) d (intKind_is _ _ k t) D.low fv) ⟨_, M3, z, H3, I3.tok _, ?_, q3⟩
    rw [hk]
    exact rz
  · refine call_meetsIn PySem.F.slot_dict_get M3.typeIs PySem.F.entry_dict_get (PySem.F.args_dict_get_3 _ _ _) (meets_dict_get_default (intKind X.prog X.w) d (intKind_is _ _ k t) D.low fv) ⟨_, M3, v, H3, I3.tok _, ?_, q3⟩
    rw [hk]
    exact ru
end Kg
namespace L2
open PySem PySem.Spec PyProof.Rows
/-- an f-string of two parts or more, its reading by a name -/
def tJd (ts : List TE) : TE := fun σ H Q => tJs ts Str.empty σ H fun out H1 => Q (.str out) H1
theorem pe_joinedD {X : Cx} {v1 v2 : Expr} {rest : List Expr} {ts : List TE} {pos : Pos} (h : PJ X (v1 :: v2 :: rest) ts) : PE X (.JoinedStr (v1 :: v2 :: rest) pos) (tJd ts) := pe_joined h
end L2
namespace My
open PySem PySem.Spec PyProof.Rows L2
def sp0 (p : Hp → VK → XK → Prop) : Sp := fun vs H Q E => vs = [] ∧ p H Q E
theorem len0 {p} (vs : List V) (H : Hp) (Q : VK) (E : XK) (h : sp0 p vs H Q E) : vs.length = 0 := by rw [h.1]; rfl
def tCallG0 (sp : Sp) (E : XK) : TE := fun _ H Q => sp [] H Q E
theorem pe_g0 {X : Cx} {CX : CXT} {k : Nat} {x : Str} {ps : List Str} {sp : Sp} {E : XK} {p pos : Pos} (h : Gd X.prog X.w X.K X.mg X.base CX k x ps sp) (hr : Room k X.A) (hx : Passes CX X E) (hg : Gl X x := by rfl) (hdb : (x == ("__debug__" : Str)) = false := by decide) : PE X (.Call (.Name x p) [] [] pos) (tCallG0 sp E) := by
  obtain ⟨f, fd, hm, F, hb, hk, _⟩ := h.ex
  have z := pe_call0 (p := p) (pos := pos) F hr hg hm hk hb .nil hx hdb
  exact ⟨fun pins s σ H Q I hw => z.run pins s σ H Q I hw⟩
end My

namespace B6
open PySem PyProof.Rows L2
open Builtin (bitAnd bitOr)
/-! ### words of branches and jumps -/
theorem and_disj : ∀ (k : Nat) (a b : Int), a % 2 ^ k = 0 → 0 ≤ b → b < 2 ^ k → bitAnd a b = 0
  | 0, a, b, _, h0, h1 => by
    have : b = 0 := by
      have : (2 : Int) ^ 0 = 1 := by decide
      omega
    subst this
    exact bitAnd_zero a
  | k + 1, a, b, h, h0, h1 => by
    have e : (2 : Int) ^ (k + 1) = 2 * 2 ^ k := by rw [Int.pow_succ, Int.mul_comm]
    rw [e] at h h1
    have hp : (0 : Int) < 2 ^ k := Int.pow_pos (by decide)
    obtain ⟨q, hq⟩ : ∃ q, a = 2 * 2 ^ k * q := ⟨a / (2 * 2 ^ k), by have := Int.mul_ediv_add_emod a (2 * 2 ^ k); rw [h, Int.add_zero] at this; exact this.symm⟩
    have ha : a % 2 = 0 := by rw [hq, Int.mul_assoc]; exact Int.mul_emod_right _ _
    have ha2 : a / 2 = 2 ^ k * q := by rw [hq, Int.mul_assoc]; exact Int.mul_ediv_cancel_left _ (by decide)
    rw [PySem.W.kbt_halves a b, and_disj k (a / 2) (b / 2) (by rw [ha2]; exact Int.mul_emod_right _ _) (by omega) (by omega), if_neg (by omega)]
    rfl
theorem and_shift : ∀ (k : Nat) (x p : Int), bitAnd x (p * 2 ^ k) = bitAnd (x / 2 ^ k) p * 2 ^ k
  | 0, x, p => by
    have : (2 : Int) ^ 0 = 1 := by decide
    rw [this, Int.mul_one, Int.mul_one, Int.ediv_one]
  | k + 1, x, p => by
    have e : (2 : Int) ^ (k + 1) = 2 ^ k * 2 := Int.pow_succ ..
    have e2 : p * (2 ^ k * 2) = 2 * (p * 2 ^ k) := by rw [← Int.mul_assoc, Int.mul_comm]
    rw [e, e2, PySem.W.kbt_halves, Int.mul_ediv_cancel_left _ (by decide), and_shift k (x / 2) p, if_neg (by omega), Int.ediv_ediv_of_nonneg (by decide), Int.mul_comm 2 ((2 : Int) ^ k), Int.add_zero, Int.mul_comm 2, Int.mul_assoc]
/-- a field where there is nothing yet -/
theorem or_field (m k : Nat) {x p : Int} (h : (x / 2 ^ k) % 2 ^ m = 0) (h0 : 0 ≤ p) (h1 : p < 2 ^ m) : bitOr x (p * 2 ^ k) = x + p * 2 ^ k := by
  rw [bitOr_and, and_shift, and_disj m _ _ h h0 h1, Int.zero_mul, Int.sub_zero]
theorem or_fieldL (m k : Nat) {M D x p : Int} (hM : (2 : Int) ^ m = M) (hD : (2 : Int) ^ k = D) (h : (x / D) % M = 0) (h0 : 0 ≤ p) (h1 : p < M) : bitOr x (p * D) = x + p * D := by
  subst hM hD
  exact or_field m k h h0 h1
theorem p31 : (2 : Int) ^ 31 = 2147483648 := by decide
theorem p25 : (2 : Int) ^ 25 = 33554432 := by decide
theorem p21 : (2 : Int) ^ 21 = 2097152 := by decide
theorem p20 : (2 : Int) ^ 20 = 1048576 := by decide
theorem p15 : (2 : Int) ^ 15 = 32768 := by decide
theorem p12 : (2 : Int) ^ 12 = 4096 := by decide
theorem p11 : (2 : Int) ^ 11 = 2048 := by decide
theorem p10 : (2 : Int) ^ 10 = 1024 := by decide
theorem p8 : (2 : Int) ^ 8 = 256 := by decide
theorem p7 : (2 : Int) ^ 7 = 128 := by decide
theorem p6 : (2 : Int) ^ 6 = 64 := by decide
theorem p5 : (2 : Int) ^ 5 = 32 := by decide
theorem p4 : (2 : Int) ^ 4 = 16 := by decide
theorem p3 : (2 : Int) ^ 3 = 8 := by decide
theorem p1 : (2 : Int) ^ 1 = 2 := by decide
def fin (x l p f : Int) : Int := bitOr (bitOr (bitOr x l) (p * 2 ^ 12)) (f * 2 ^ 25)
def sgn (n h : Int) : Int := if h ≤ n then n - 2 * h else n
def rB (w : Int) : Int := bitOr (bitOr (bitOr (w / 2 ^ 31 * 2 ^ 12) (bitAnd (w / 2 ^ 7) 1 * 2 ^ 11)) (bitAnd (w / 2 ^ 25) 63 * 2 ^ 5)) (bitAnd (w / 2 ^ 8) 15 * 2 ^ 1)
def rJ (w : Int) : Int := bitOr (bitOr (bitOr (w / 2 ^ 31 * 2 ^ 20) (bitAnd (w / 2 ^ 12) 255 * 2 ^ 12)) (bitAnd (w / 2 ^ 20) 1 * 2 ^ 11)) (bitAnd (w / 2 ^ 21) 1023 * 2 ^ 1)
theorem m1 (x : Int) : bitAnd x 1 = x % 2 := bitAnd_m1 x
theorem m4 (x : Int) : bitAnd x 15 = x % 16 := bitAnd_m4 x
theorem m6 (x : Int) : bitAnd x 63 = x % 64 := bitAnd_m6 x
theorem m8 (x : Int) : bitAnd x 255 = x % 256 := bitAnd_m8 x
theorem m10 (x : Int) : bitAnd x 1023 = x % 1024 := PySem.W.kbt_mask x 10
theorem or0 (x : Int) (k : Nat) : bitOr x (0 * 2 ^ k) = x := by rw [Int.zero_mul, bitOr_and, bitAnd_zero, Int.add_zero, Int.sub_zero]
theorem or_low (m : Nat) {x p : Int} (h : x % 2 ^ m = 0) (h0 : 0 ≤ p) (h1 : p < 2 ^ m) : bitOr x p = x + p := by
  have := or_field m 0 (x := x) (p := p) (by rw [show (2 : Int) ^ 0 = 1 from by decide, Int.ediv_one]; exact h) h0 h1
  rw [show (2 : Int) ^ 0 = 1 from by decide, Int.mul_one] at this
  exact this
theorem rB_eq {w f12 f5 f1 f11 : Int} (h12 : 0 ≤ f12 ∧ f12 < 2) (h5 : 0 ≤ f5 ∧ f5 < 64) (h1 : 0 ≤ f1 ∧ f1 < 16) (h11 : 0 ≤ f11 ∧ f11 < 2) (e : w / 2147483648 = f12) (f : w / 128 % 2 = f11) (g : w / 33554432 % 64 = f5) (h : w / 256 % 16 = f1) :
    rB w = f12 * 4096 + f11 * 2048 + f5 * 32 + f1 * 2 := by
  unfold rB
  rw [m1, m4, m6, show w / 2 ^ 31 = f12 from e, show w / 2 ^ 7 % 2 = f11 from f, show w / 2 ^ 25 % 64 = f5 from g, show w / 2 ^ 8 % 16 = f1 from h]
  clear e f g h
  rw [or_field 1 11 (by omega) (by omega) (by omega), or_field 6 5 (by omega) (by omega) (by omega), or_field 4 1 (by omega) (by omega) (by omega)]
  omega
theorem rJ_eq {w f20 f1 f11 f12 : Int} (h20 : 0 ≤ f20 ∧ f20 < 2) (h1 : 0 ≤ f1 ∧ f1 < 1024) (h11 : 0 ≤ f11 ∧ f11 < 2) (h12 : 0 ≤ f12 ∧ f12 < 256) (e : w / 2147483648 = f20) (f : w / 4096 % 256 = f12) (g : w / 1048576 % 2 = f11) (h : w / 2097152 % 1024 = f1) :
    rJ w = f20 * 1048576 + f12 * 4096 + f11 * 2048 + f1 * 2 := by
  unfold rJ
  rw [m1, m8, m10, show w / 2 ^ 31 = f20 from e, show w / 2 ^ 12 % 256 = f12 from f, show w / 2 ^ 20 % 2 = f11 from g, show w / 2 ^ 21 % 1024 = f1 from h]
  clear e f g h
  rw [or_field 8 12 (by omega) (by omega) (by omega), or_field 1 11 (by omega) (by omega) (by omega), or_field 10 1 (by omega) (by omega) (by omega)]
  omega
/-! ### words of the other forms: what is written, as a sum; what is read of it -/
def w3 (one other third : Int) : Int := bitOr (bitOr (third * 2 ^ 20) (other * 2 ^ 15)) (one * 2 ^ 7)
def wN (one other n : Int) : Int := bitOr (bitOr (bitAnd n 4095 * 2 ^ 20) (other * 2 ^ 15)) (one * 2 ^ 7)
def wS (one other n : Int) : Int := bitOr (bitOr (bitOr (bitAnd (n / 2 ^ 5) 127 * 2 ^ 25) (other * 2 ^ 20)) (one * 2 ^ 15)) (bitAnd n 31 * 2 ^ 7)
def wU (one n : Int) : Int := bitOr (n * 2 ^ 12) (one * 2 ^ 7)
theorem m12 (x : Int) : bitAnd x 4095 = x % 4096 := PySem.W.kbt_mask x 12
theorem fin_eq {x l p f : Int} (hx : x % 128 = 0) (h12 : x / 4096 % 8 = 0) (h25 : x / 33554432 % 128 = 0 ∨ f = 0) (h0 : 0 ≤ l ∧ l < 128) (h1 : 0 ≤ p ∧ p < 8) (h2 : 0 ≤ f ∧ f < 128) :
    fin x l p f = x + l + p * 4096 + f * 33554432 := by
  unfold fin
  rw [p12, p25, or_low 7 (p := l) (by rw [p7]; exact hx) (by omega) (by rw [p7]; omega), or_fieldL 3 12 p3 p12 (by omega) (by omega) (by omega)]
  rcases h25 with h | h
  · rw [or_fieldL 7 25 p7 p25 (by omega) (by omega) (by omega)]
  · rw [h, ← p25, or0]; omega
theorem w3_eq {a b c : Int} (ha : 0 ≤ a ∧ a < 32) (hb : 0 ≤ b ∧ b < 32) (hc : 0 ≤ c ∧ c < 32) : w3 a b c = c * 1048576 + b * 32768 + a * 128 := by
  unfold w3
  rw [p20, p15, p7, or_fieldL 5 15 p5 p15 (by omega) (by omega) (by omega), or_fieldL 5 7 p5 p7 (by omega) (by omega) (by omega)]
theorem wN_eq {a b : Int} (ha : 0 ≤ a ∧ a < 32) (hb : 0 ≤ b ∧ b < 32) (n : Int) : wN a b n = n % 4096 * 1048576 + b * 32768 + a * 128 := by
  unfold wN
  rw [m12, p20, p15, p7]
  have hn : 0 ≤ n % 4096 ∧ n % 4096 < 4096 := by omega
  generalize n % 4096 = c at *
  rw [or_fieldL 5 15 p5 p15 (by omega) (by omega) (by omega), or_fieldL 5 7 p5 p7 (by omega) (by omega) (by omega)]
theorem wS_eq {a b : Int} (ha : 0 ≤ a ∧ a < 32) (hb : 0 ≤ b ∧ b < 32) (n : Int) : wS a b n = n / 32 % 128 * 33554432 + b * 1048576 + a * 32768 + n % 32 * 128 := by
  unfold wS
  rw [show bitAnd (n / 2 ^ 5) 127 = n / 2 ^ 5 % 128 from bitAnd_m7 _, bitAnd_m5, p5, p25, p20, p15, p7]
  have h1 : 0 ≤ n / 32 % 128 ∧ n / 32 % 128 < 128 := by omega
  have h2 : 0 ≤ n % 32 ∧ n % 32 < 32 := by omega
  generalize n / 32 % 128 = c at *
  generalize n % 32 = d at *
  rw [or_fieldL 5 20 p5 p20 (by omega) (by omega) (by omega), or_fieldL 5 15 p5 p15 (by omega) (by omega) (by omega), or_fieldL 5 7 p5 p7 (by omega) (by omega) (by omega)]
theorem wU_eq {a n : Int} (ha : 0 ≤ a ∧ a < 32) (hn : 0 ≤ n ∧ n < 1048576) : wU a n = n * 4096 + a * 128 := by
  unfold wU
  rw [p12, p7, or_fieldL 5 7 p5 p7 (by omega) (by omega) (by omega)]
/-- the fields of a word -/
structure Fields (w l rd f3 r1 r2 f7 : Int) : Prop where
  last : w % 128 = l
  rd : w / 128 % 32 = rd
  part : w / 4096 % 8 = f3
  one : w / 32768 % 32 = r1
  two : w / 1048576 % 32 = r2
  first : w / 33554432 = f7
theorem fields {w l rd f3 r1 r2 f7 : Int} (hl : 0 ≤ l ∧ l < 128) (h1 : 0 ≤ rd ∧ rd < 32) (h2 : 0 ≤ f3 ∧ f3 < 8) (h3 : 0 ≤ r1 ∧ r1 < 32) (h4 : 0 ≤ r2 ∧ r2 < 32) (h5 : 0 ≤ f7 ∧ f7 < 128)
    (e : w = f7 * 33554432 + r2 * 1048576 + r1 * 32768 + f3 * 4096 + rd * 128 + l) : Fields w l rd f3 r1 r2 f7 := by
  refine ⟨by omega, by omega, by omega, by omega, by omega, by omega⟩
/-- a word is the sum of its fields -/
theorem whole_eq {w : Int} (h : 0 ≤ w ∧ w < 4294967296) : w = w / 33554432 * 33554432 + w / 1048576 % 32 * 1048576 + w / 32768 % 32 * 32768 + w / 4096 % 8 * 4096 + w / 128 % 32 * 128 + w % 128 := by omega
/-- three registers, or a shift: written, and read again -/
theorem three_back {l p f a b c : Int} (hl : 0 ≤ l ∧ l < 128) (hp : 0 ≤ p ∧ p < 8) (hf : 0 ≤ f ∧ f < 128) (ha : 0 ≤ a ∧ a < 32) (hb : 0 ≤ b ∧ b < 32) (hc : 0 ≤ c ∧ c < 32) :
    fin (w3 a b c) l p f = f * 33554432 + c * 1048576 + b * 32768 + p * 4096 + a * 128 + l := by
  rw [w3_eq ha hb hc, fin_eq (by omega) (by omega) (Or.inl (by omega)) hl hp hf]; omega
/-- a number of twelve bits -/
theorem number_back {l p a b : Int} (hl : 0 ≤ l ∧ l < 128) (hp : 0 ≤ p ∧ p < 8) (ha : 0 ≤ a ∧ a < 32) (hb : 0 ≤ b ∧ b < 32) (n : Int) : fin (wN a b n) l p 0 = n % 4096 * 1048576 + b * 32768 + p * 4096 + a * 128 + l := by
  rw [wN_eq ha hb n, fin_eq (by omega) (by omega) (Or.inr rfl) hl hp (by omega)]; omega
theorem store_back {l p a b : Int} (hl : 0 ≤ l ∧ l < 128) (hp : 0 ≤ p ∧ p < 8) (ha : 0 ≤ a ∧ a < 32) (hb : 0 ≤ b ∧ b < 32) (n : Int) : fin (wS a b n) l p 0 = n / 32 % 128 * 33554432 + b * 1048576 + a * 32768 + p * 4096 + n % 32 * 128 + l := by
  rw [wS_eq ha hb n]
  have h1 : 0 ≤ n / 32 % 128 ∧ n / 32 % 128 < 128 := by omega
  have h2 : 0 ≤ n % 32 ∧ n % 32 < 32 := by omega
  generalize n / 32 % 128 = c at *
  generalize n % 32 = d at *
  rw [fin_eq (by omega) (by omega) (Or.inr rfl) hl hp (by omega)]; omega
theorem upper_back {l a n : Int} (hl : 0 ≤ l ∧ l < 128) (ha : 0 ≤ a ∧ a < 32) (hn : 0 ≤ n ∧ n < 1048576) : bitOr (wU a n) l = n * 4096 + a * 128 + l := by
  rw [wU_eq ha hn, or_low 7 (p := l) (by rw [p7]; omega) (by omega) (by rw [p7]; omega)]
theorem sgn12 {n : Int} (h : -2048 ≤ n ∧ n ≤ 2047) : sgn (n % 4096) 2048 = n := by
  unfold sgn
  split <;> omega
theorem sgn12s {n : Int} (h : -2048 ≤ n ∧ n ≤ 2047) : sgn (n / 32 % 128 * 32 + n % 32) 2048 = n := by
  unfold sgn
  split <;> omega
/-- what is read of twelve bits is a number that goes there again -/
theorem sgn_low {u : Int} (h : 0 ≤ u ∧ u < 4096) : -2048 ≤ sgn u 2048 ∧ sgn u 2048 ≤ 2047 ∧ sgn u 2048 % 4096 = u := by
  unfold sgn
  split <;> omega
end B6

namespace I6
open PySem PyProof.Rows L2 B6
open Builtin (bitAnd bitOr)
/-! ### instructions: names, forms, words -/
inductive Fo where | three | number | shift | store | branch | upper | jump | whole
  deriving DecidableEq
def foS : Fo → Str
  | .three => "three" | .number => "number" | .shift => "shift" | .store => "store" | .branch => "branch" | .upper => "upper" | .jump => "jump" | .whole => "whole"
def nmsS : List String := ["add", "sub", "sll", "slt", "sltu", "xor", "srl", "sra", "or", "and", "mul", "mulh", "mulhsu", "mulhu", "div", "divu", "rem", "remu", "addi", "slti", "sltiu", "xori", "ori", "andi", "slli", "srli", "srai", "lb", "lh", "lw", "lbu", "lhu", "jalr", "sb", "sh", "sw", "beq", "bne", "blt", "bge", "bltu", "bgeu", "lui", "auipc", "jal", "ecall", "ebreak", "fence"]
def fos : List Fo := [.three, .three, .three, .three, .three, .three, .three, .three, .three, .three, .three, .three, .three, .three, .three, .three, .three, .three, .number, .number, .number, .number, .number, .number, .shift, .shift, .shift, .number, .number, .number, .number, .number, .number, .store, .store, .store, .branch, .branch, .branch, .branch, .branch, .branch, .upper, .upper, .jump, .whole, .whole, .whole]
def las : List Int := [51, 51, 51, 51, 51, 51, 51, 51, 51, 51, 51, 51, 51, 51, 51, 51, 51, 51, 19, 19, 19, 19, 19, 19, 19, 19, 19, 3, 3, 3, 3, 3, 103, 35, 35, 35, 99, 99, 99, 99, 99, 99, 55, 23, 111, 115, 115, 15]
def pas : List Int := [0, 0, 1, 2, 3, 4, 5, 5, 6, 7, 0, 1, 2, 3, 4, 5, 6, 7, 0, 2, 3, 4, 6, 7, 1, 5, 5, 0, 1, 2, 4, 5, 0, 0, 1, 2, 0, 1, 4, 5, 6, 7, 0, 0, 0, 115, 1048691, 267386895]
def fis : List Int := [0, 32, 0, 0, 0, 0, 0, 32, 0, 0, 1, 1, 1, 1, 1, 1, 1, 1, 0, 0, 0, 0, 0, 0, 0, 0, 32, 0, 0, 0, 0, 0, 0, 0, 0, 0, 0, 0, 0, 0, 0, 0, 0, 0, 0, 0, 0, 0]
def regsS : List String := ["zero", "ra", "sp", "gp", "tp", "t0", "t1", "t2", "s0", "s1", "a0", "a1", "a2", "a3", "a4", "a5", "a6", "a7", "s2", "s3", "s4", "s5", "s6", "s7", "s8", "s9", "s10", "s11", "t3", "t4", "t5", "t6"]
def nm (o : Nat) : Str := Str.ofString (nmsS.getD o "")
def fo (o : Nat) : Fo := fos.getD o .whole
def la (o : Nat) : Int := las.getD o 0
def pa (o : Nat) : Int := pas.getD o 0
def fi (o : Nat) : Int := fis.getD o 0
def byl (l : Int) : List Nat := (List.range 48).filter fun o => decide (la o = l)
theorem byl_mem {l : Int} {o : Nat} (h : o ∈ byl l) : o < 48 ∧ la o = l := by
  obtain ⟨a, b⟩ := List.mem_filter.mp h
  exact ⟨List.mem_range.mp a, of_decide_eq_true b⟩
abbrev O := Option Int
def isN (x : O) (a b : Int) : Bool := match x with | some i => decide (a ≤ i) && decide (i ≤ b) | none => false
def dist (x : O) (h : Int) : Bool := isN x (-h) (h - 1) && decide (bitAnd (x.getD 0) 1 = 0)
def ok : Fo → O → O → O → Bool
  | .three, x, y, z | .shift, x, y, z => isN x 0 31 && (isN y 0 31 && isN z 0 31)
  | .number, x, y, z | .store, x, y, z => (isN x 0 31 && isN y 0 31) && isN z (-2048) 2047
  | .branch, x, y, z => (isN x 0 31 && isN y 0 31) && dist z 4096
  | .upper, x, y, z => isN x 0 31 && (isN y 0 1048575 && isN z 0 0)
  | .jump, x, y, z => isN x 0 31 && (dist y 1048576 && isN z 0 0)
  | .whole, x, y, z => isN x 0 0 && (isN y 0 0 && isN z 0 0)
def wB (a b d : Int) : Int := bitOr (bitOr (bitOr (bitOr (bitOr (bitAnd (d / 2 ^ 12) 1 * 2 ^ 31) (bitAnd (d / 2 ^ 5) 63 * 2 ^ 25)) (b * 2 ^ 20)) (a * 2 ^ 15)) (bitAnd (d / 2 ^ 1) 15 * 2 ^ 8)) (bitAnd (d / 2 ^ 11) 1 * 2 ^ 7)
def wJ (a d : Int) : Int := bitOr (bitOr (bitOr (bitOr (bitAnd (d / 2 ^ 20) 1 * 2 ^ 31) (bitAnd (d / 2 ^ 1) 1023 * 2 ^ 21)) (bitAnd (d / 2 ^ 11) 1 * 2 ^ 20)) (bitAnd (d / 2 ^ 12) 255 * 2 ^ 12)) (a * 2 ^ 7)
def wr : Fo → Int → Int → Int → Int
  | .three, a, b, c | .shift, a, b, c => w3 a b c
  | .number, a, b, c => wN a b c
  | .store, a, b, c => wS a b c
  | .branch, a, b, c => wB a b c
  | .upper, a, b, _ => wU a b
  | .jump, a, b, _ => wJ a b
  | .whole, _, _, _ => 0
def wordM (o : Nat) (a b c : Int) : Int := if fo o = .whole then pa o else fin (wr (fo o) a b c) (la o) (pa o) (fi o)
def fnd (o : Nat) (w : Int) : Bool := match fo o with
  | .whole => decide (w = pa o)
  | .upper | .jump => true
  | .three | .shift => decide (bitAnd (w / 2 ^ 12) 7 = pa o) && decide (w / 2 ^ 25 = fi o)
  | _ => decide (bitAnd (w / 2 ^ 12) 7 = pa o)
def rd : Fo → Int → Int × Int × Int
  | .three, w | .shift, w => (bitAnd (w / 2 ^ 7) 31, bitAnd (w / 2 ^ 15) 31, bitAnd (w / 2 ^ 20) 31)
  | .number, w => (bitAnd (w / 2 ^ 7) 31, bitAnd (w / 2 ^ 15) 31, sgn (w / 2 ^ 20) 2048)
  | .store, w => (bitAnd (w / 2 ^ 15) 31, bitAnd (w / 2 ^ 20) 31, sgn (bitOr (w / 2 ^ 25 * 2 ^ 5) (bitAnd (w / 2 ^ 7) 31)) 2048)
  | .branch, w => (bitAnd (w / 2 ^ 15) 31, bitAnd (w / 2 ^ 20) 31, sgn (rB w) 4096)
  | .upper, w => (bitAnd (w / 2 ^ 7) 31, w / 2 ^ 12, 0)
  | .jump, w => (bitAnd (w / 2 ^ 7) 31, sgn (rJ w) 1048576, 0)
  | .whole, _ => (0, 0, 0)
def decM (w : Int) : Option Nat := (byl (bitAnd w 127)).find? fun o => fnd o w
theorem isN_i {i a b : Int} (h : isN (some i) a b = true) : a ≤ i ∧ i ≤ b := by
  unfold isN at h
  simpa using h
theorem i_isN {i a b : Int} (h0 : a ≤ i) (h1 : i ≤ b) : isN (some i) a b = true := by
  unfold isN
  simp [h0, h1]
theorem i_dist {d h : Int} (h0 : -h ≤ d) (h1 : d ≤ h - 1) (h2 : d % 2 = 0) : dist (some d) h = true := by
  unfold dist
  rw [i_isN h0 h1, show bitAnd ((some d : O).getD 0) 1 = d % 2 from m1 d, h2]
  rfl
theorem dist_i {d h : Int} (e : dist (some d) h = true) : (-h ≤ d ∧ d ≤ h - 1) ∧ d % 2 = 0 := by
  unfold dist at e
  obtain ⟨a, b⟩ := Bool.and_eq_true_iff.mp e
  refine ⟨isN_i a, ?_⟩
  have := of_decide_eq_true b
  rwa [show bitAnd ((some d : O).getD 0) 1 = d % 2 from m1 d] at this
/-- the table's rows -/
structure Row (o : Nat) : Prop where
  l : 0 ≤ la o ∧ la o < 128
  p : fo o ≠ .whole → 0 ≤ pa o ∧ pa o < 8
  f : 0 ≤ fi o ∧ fi o < 128
  f0 : fo o ≠ .three → fo o ≠ .shift → fi o = 0
  p0 : fo o = .upper ∨ fo o = .jump → pa o = 0
  w : fo o = .whole → 0 ≤ pa o ∧ pa o < 4294967296 ∧ pa o % 128 = la o
theorem row {o : Nat} (h : o < 48) : Row o := by
  have k : ∀ o, o < 48 → (0 ≤ la o ∧ la o < 128) ∧ (fo o ≠ .whole → 0 ≤ pa o ∧ pa o < 8) ∧ (0 ≤ fi o ∧ fi o < 128) ∧ (fo o ≠ .three → fo o ≠ .shift → fi o = 0) ∧ (fo o = .upper ∨ fo o = .jump → pa o = 0) ∧ (fo o = .whole → 0 ≤ pa o ∧ pa o < 4294967296 ∧ pa o % 128 = la o) := by decide +kernel
  obtain ⟨a, b, c, d, e, f⟩ := k o h
  exact ⟨a, b, c, d, e, f⟩
theorem wB_eq {a b l p d : Int} (ha : 0 ≤ a ∧ a < 32) (hb : 0 ≤ b ∧ b < 32) (hl : 0 ≤ l ∧ l < 128) (hp : 0 ≤ p ∧ p < 8) :
    fin (wB a b d) l p 0 = (d / 4096 % 2) * 2147483648 + (d / 32 % 64) * 33554432 + b * 1048576 + a * 32768 + (d / 2 % 16) * 256 + (d / 2048 % 2) * 128 + l + p * 4096 := by
  unfold fin wB
  rw [m1, m1, m4, m6, or0, p31, p25, p20, p15, p12, p11, p8, p7, p5, p1]
  have h12 : 0 ≤ d / 4096 % 2 ∧ d / 4096 % 2 < 2 := by omega
  have h5 : 0 ≤ d / 32 % 64 ∧ d / 32 % 64 < 64 := by omega
  have h1 : 0 ≤ d / 2 % 16 ∧ d / 2 % 16 < 16 := by omega
  have h11 : 0 ≤ d / 2048 % 2 ∧ d / 2048 % 2 < 2 := by omega
  generalize d / 4096 % 2 = f12 at *
  generalize d / 32 % 64 = f5 at *
  generalize d / 2 % 16 = f1 at *
  generalize d / 2048 % 2 = f11 at *
  rw [or_fieldL 6 25 p6 p25 (by omega) (by omega) (by omega), or_fieldL 5 20 p5 p20 (by omega) (by omega) (by omega), or_fieldL 5 15 p5 p15 (by omega) (by omega) (by omega), or_fieldL 4 8 p4 p8 (by omega) (by omega) (by omega), or_fieldL 1 7 p1 p7 (by omega) (by omega) (by omega)]
  rw [or_low 7 (p := l) (by rw [p7]; omega) (by omega) (by rw [p7]; omega), or_fieldL 3 12 p3 p12 (by omega) (by omega) (by omega)]
theorem wJ_eq {a l d : Int} (ha : 0 ≤ a ∧ a < 32) (hl : 0 ≤ l ∧ l < 128) :
    fin (wJ a d) l 0 0 = (d / 1048576 % 2) * 2147483648 + (d / 2 % 1024) * 2097152 + (d / 2048 % 2) * 1048576 + (d / 4096 % 256) * 4096 + a * 128 + l := by
  unfold fin wJ
  rw [m1, m1, m8, m10, or0, or0, p31, p21, p20, p12, p11, p7, p1]
  have h20 : 0 ≤ d / 1048576 % 2 ∧ d / 1048576 % 2 < 2 := by omega
  have h1 : 0 ≤ d / 2 % 1024 ∧ d / 2 % 1024 < 1024 := by omega
  have h11 : 0 ≤ d / 2048 % 2 ∧ d / 2048 % 2 < 2 := by omega
  have h12 : 0 ≤ d / 4096 % 256 ∧ d / 4096 % 256 < 256 := by omega
  generalize d / 1048576 % 2 = f20 at *
  generalize d / 2 % 1024 = f1 at *
  generalize d / 2048 % 2 = f11 at *
  generalize d / 4096 % 256 = f12 at *
  rw [or_fieldL 10 21 p10 p21 (by omega) (by omega) (by omega), or_fieldL 1 20 p1 p20 (by omega) (by omega) (by omega), or_fieldL 8 12 p8 p12 (by omega) (by omega) (by omega), or_fieldL 5 7 p5 p7 (by omega) (by omega) (by omega)]
  rw [or_low 7 (p := l) (by rw [p7]; omega) (by omega) (by rw [p7]; omega)]
theorem fin_upper {a n l : Int} (ha : 0 ≤ a ∧ a < 32) (hn : 0 ≤ n ∧ n < 1048576) (hl : 0 ≤ l ∧ l < 128) : fin (wU a n) l 0 0 = n * 4096 + a * 128 + l := by
  unfold fin
  rw [or0, or0, upper_back hl ha hn]
theorem sBk {x y : Int} (hx : 0 ≤ x ∧ x < 128) (hy : 0 ≤ y ∧ y < 32) : bitOr (x * 2 ^ 5) y = x * 32 + y := by
  rw [p5, or_low 5 (p := y) (by rw [p5]; omega) (by omega) (by rw [p5]; omega)]
/-- the word as a number of fields, for a right instruction -/
def okI (f : Fo) (a b c : Int) : Prop := match f with
  | .three | .shift => (0 ≤ a ∧ a < 32) ∧ (0 ≤ b ∧ b < 32) ∧ (0 ≤ c ∧ c < 32)
  | .number | .store => (0 ≤ a ∧ a < 32) ∧ (0 ≤ b ∧ b < 32) ∧ (-2048 ≤ c ∧ c ≤ 2047)
  | .branch => (0 ≤ a ∧ a < 32) ∧ (0 ≤ b ∧ b < 32) ∧ (-4096 ≤ c ∧ c ≤ 4095) ∧ c % 2 = 0
  | .upper => (0 ≤ a ∧ a < 32) ∧ (0 ≤ b ∧ b < 1048576) ∧ c = 0
  | .jump => (0 ≤ a ∧ a < 32) ∧ ((-1048576 ≤ b ∧ b ≤ 1048575) ∧ b % 2 = 0) ∧ c = 0
  | .whole => a = 0 ∧ b = 0 ∧ c = 0
theorem ok_of {f : Fo} {a b c : Int} (h : okI f a b c) : ok f (some a) (some b) (some c) = true := by
  cases f <;> simp only [okI] at h <;> simp only [ok, Bool.and_eq_true]
  · exact ⟨i_isN (by omega) (by omega), i_isN (by omega) (by omega), i_isN (by omega) (by omega)⟩
  · exact ⟨⟨i_isN (by omega) (by omega), i_isN (by omega) (by omega)⟩, i_isN (by omega) (by omega)⟩
  · exact ⟨i_isN (by omega) (by omega), i_isN (by omega) (by omega), i_isN (by omega) (by omega)⟩
  · exact ⟨⟨i_isN (by omega) (by omega), i_isN (by omega) (by omega)⟩, i_isN (by omega) (by omega)⟩
  · exact ⟨⟨i_isN (by omega) (by omega), i_isN (by omega) (by omega)⟩, i_dist (by omega) (by omega) (by omega)⟩
  · exact ⟨i_isN (by omega) (by omega), i_isN (by omega) (by omega), i_isN (by omega) (by omega)⟩
  · exact ⟨i_isN (by omega) (by omega), i_dist (by omega) (by omega) (by omega), i_isN (by omega) (by omega)⟩
  · exact ⟨i_isN (by omega) (by omega), i_isN (by omega) (by omega), i_isN (by omega) (by omega)⟩
theorem of_ok {f : Fo} {x y z : O} (h : ok f x y z = true) : ∃ a b c, x = some a ∧ y = some b ∧ z = some c ∧ okI f a b c := by
  have nn : ∀ {p q : Int}, isN none p q = true → False := fun q => by cases q
  have nd : ∀ {p : Int}, dist none p = true → False := fun q => by cases q
  cases f <;> simp only [ok, Bool.and_eq_true] at h <;> cases x <;> cases y <;> cases z <;> (try (exfalso; rcases h with ⟨⟨h1, h2⟩, h3⟩; first | exact nn h1 | exact nn h2 | exact nn h3 | exact nd h3)) <;> (try (exfalso; rcases h with ⟨h1, h2, h3⟩; first | exact nn h1 | exact nn h2 | exact nd h2 | exact nn h3))
  all_goals rename_i a b c
  all_goals refine ⟨a, b, c, rfl, rfl, rfl, ?_⟩
  all_goals simp only [okI]
  · obtain ⟨h1, h2, h3⟩ := h; have := isN_i h1; have := isN_i h2; have := isN_i h3; omega
  · obtain ⟨⟨h1, h2⟩, h3⟩ := h; have := isN_i h1; have := isN_i h2; have := isN_i h3; omega
  · obtain ⟨h1, h2, h3⟩ := h; have := isN_i h1; have := isN_i h2; have := isN_i h3; omega
  · obtain ⟨⟨h1, h2⟩, h3⟩ := h; have := isN_i h1; have := isN_i h2; have := isN_i h3; omega
  · obtain ⟨⟨h1, h2⟩, h3⟩ := h; have := isN_i h1; have := isN_i h2; have := dist_i h3; omega
  · obtain ⟨h1, h2, h3⟩ := h; have := isN_i h1; have := isN_i h2; have := isN_i h3; omega
  · obtain ⟨h1, h2, h3⟩ := h; have := isN_i h1; have := dist_i h2; have := isN_i h3; omega
  · obtain ⟨h1, h2, h3⟩ := h; have := isN_i h1; have := isN_i h2; have := isN_i h3; omega
/-- what a word tells is right, and has this word -/
structure Told (o : Nat) (w a b c : Int) : Prop where
  good : okI (fo o) a b c
  word : wordM o a b c = w
theorem m5 (x : Int) : bitAnd x 31 = x % 32 := bitAnd_m5 x
theorem m7 (x : Int) : bitAnd x 127 = x % 128 := bitAnd_m7 x
theorem m3 (x : Int) : bitAnd x 7 = x % 8 := bitAnd_m3 x
theorem sgn12f {f g : Int} (hf : 0 ≤ f ∧ f < 128) (hg : 0 ≤ g ∧ g < 32) {d : Int} (e : d = sgn (f * 32 + g) 2048) : (-2048 ≤ d ∧ d ≤ 2047) ∧ d / 32 % 128 = f ∧ d % 32 = g := by
  unfold sgn at e
  split at e <;> refine ⟨⟨by omega, by omega⟩, by omega, by omega⟩
theorem sgn13 {f12 f11 f5 f1 : Int} (h12 : 0 ≤ f12 ∧ f12 < 2) (h5 : 0 ≤ f5 ∧ f5 < 64) (h1 : 0 ≤ f1 ∧ f1 < 16) (h11 : 0 ≤ f11 ∧ f11 < 2) {d : Int} (e : d = sgn (f12 * 4096 + f11 * 2048 + f5 * 32 + f1 * 2) 4096) :
    (-4096 ≤ d ∧ d ≤ 4095) ∧ d % 2 = 0 ∧ d / 4096 % 2 = f12 ∧ d / 2048 % 2 = f11 ∧ d / 32 % 64 = f5 ∧ d / 2 % 16 = f1 := by
  unfold sgn at e
  split at e <;> refine ⟨⟨by omega, by omega⟩, by omega, by omega, by omega, by omega, by omega⟩
theorem sgn21 {f20 f12 f11 f1 : Int} (h20 : 0 ≤ f20 ∧ f20 < 2) (h12 : 0 ≤ f12 ∧ f12 < 256) (h11 : 0 ≤ f11 ∧ f11 < 2) (h1 : 0 ≤ f1 ∧ f1 < 1024) {d : Int} (e : d = sgn (f20 * 1048576 + f12 * 4096 + f11 * 2048 + f1 * 2) 1048576) :
    (-1048576 ≤ d ∧ d ≤ 1048575) ∧ d % 2 = 0 ∧ d / 1048576 % 2 = f20 ∧ d / 4096 % 256 = f12 ∧ d / 2048 % 2 = f11 ∧ d / 2 % 1024 = f1 := by
  unfold sgn at e
  split at e <;> refine ⟨⟨by omega, by omega⟩, by omega, by omega, by omega, by omega, by omega⟩
theorem told {o : Nat} {w : Int} (ho : o < 48) (h : 0 ≤ w ∧ w < 4294967296) (hl : w % 128 = la o) (hf : fnd o w = true) : Told o w (rd (fo o) w).1 (rd (fo o) w).2.1 (rd (fo o) w).2.2 := by
  have R := row ho
  have e7 : w / 2 ^ 7 % 32 = w / 128 % 32 := by rw [p7]
  have e12 : w / 2 ^ 12 % 8 = w / 4096 % 8 := by rw [p12]
  unfold fnd at hf
  cases e : fo o with
  | three =>
    rw [e] at hf
    dsimp only at hf
    obtain ⟨f1, f2⟩ := Bool.and_eq_true_iff.mp hf
    have f1 := of_decide_eq_true f1
    have f2 := of_decide_eq_true f2
    rw [m3, p12] at f1
    rw [p25] at f2
    have rp := R.p (by rw [e]; exact fun z => by cases z)
    have rf := R.f
    have rl := R.l
    dsimp only [rd]
    rw [m5, m5, m5, p7, p15, p20]
    refine ⟨by rw [e]; exact ⟨by omega, by omega, by omega⟩, ?_⟩
    unfold wordM
    rw [e, if_neg (by intro z; cases z)]
    dsimp only [wr]
    rw [three_back rl rp rf (by omega) (by omega) (by omega)]
    omega
  | shift =>
    rw [e] at hf
    dsimp only at hf
    obtain ⟨f1, f2⟩ := Bool.and_eq_true_iff.mp hf
    have f1 := of_decide_eq_true f1
    have f2 := of_decide_eq_true f2
    rw [m3, p12] at f1
    rw [p25] at f2
    have rp := R.p (by rw [e]; exact fun z => by cases z)
    have rf := R.f
    have rl := R.l
    dsimp only [rd]
    rw [m5, m5, m5, p7, p15, p20]
    refine ⟨by rw [e]; exact ⟨by omega, by omega, by omega⟩, ?_⟩
    unfold wordM
    rw [e, if_neg (by intro z; cases z)]
    dsimp only [wr]
    rw [three_back rl rp rf (by omega) (by omega) (by omega)]
    omega
  | number =>
    rw [e] at hf
    dsimp only at hf
    have f1 := of_decide_eq_true hf
    rw [m3, p12] at f1
    have rp := R.p (by rw [e]; exact fun z => by cases z)
    have rf := R.f0 (by rw [e]; exact fun z => by cases z) (by rw [e]; exact fun z => by cases z)
    have rl := R.l
    dsimp only [rd]
    rw [m5, m5, p7, p15, p20]
    have sl := sgn_low (u := w / 1048576) (by omega)
    refine ⟨by rw [e]; exact ⟨by omega, by omega, by omega⟩, ?_⟩
    unfold wordM
    rw [e, if_neg (by intro z; cases z)]
    dsimp only [wr]
    rw [rf, number_back rl rp (by omega) (by omega)]
    omega
  | store =>
    rw [e] at hf
    dsimp only at hf
    have f1 := of_decide_eq_true hf
    rw [m3, p12] at f1
    have rp := R.p (by rw [e]; exact fun z => by cases z)
    have rf := R.f0 (by rw [e]; exact fun z => by cases z) (by rw [e]; exact fun z => by cases z)
    have rl := R.l
    dsimp only [rd]
    rw [m5, m5, m5, p7, p15, p20, p25, sBk (by omega) (by omega)]
    obtain ⟨k0, k1, k2⟩ := sgn12f (f := w / 33554432) (g := w / 128 % 32) (by omega) (by omega) rfl
    refine ⟨by rw [e]; exact ⟨by omega, by omega, k0⟩, ?_⟩
    unfold wordM
    rw [e, if_neg (by intro z; cases z)]
    dsimp only [wr]
    rw [rf, store_back rl rp (by omega) (by omega), k1, k2]
    clear k0 k1 k2
    omega
  | branch =>
    rw [e] at hf
    dsimp only at hf
    have f1 := of_decide_eq_true hf
    rw [m3, p12] at f1
    have rp := R.p (by rw [e]; exact fun z => by cases z)
    have rf := R.f0 (by rw [e]; exact fun z => by cases z) (by rw [e]; exact fun z => by cases z)
    have rl := R.l
    dsimp only [rd]
    rw [m5, m5, p15, p20, rB_eq (w := w) (by omega) (by omega) (by omega) (by omega) rfl rfl rfl rfl]
    obtain ⟨k0, k1, k2, k3, k4, k5⟩ := sgn13 (f12 := w / 2147483648) (f5 := w / 33554432 % 64) (f1 := w / 256 % 16) (f11 := w / 128 % 2) (by omega) (by omega) (by omega) (by omega) rfl
    refine ⟨by rw [e]; exact ⟨by omega, by omega, k0, k1⟩, ?_⟩
    unfold wordM
    rw [e, if_neg (by intro z; cases z)]
    dsimp only [wr]
    rw [rf, wB_eq (by omega) (by omega) rl rp, k2, k3, k4, k5]
    clear k0 k1 k2 k3 k4 k5
    have g1 : w / 33554432 = w / 2147483648 * 64 + w / 33554432 % 64 := by omega
    have g2 : w / 128 % 32 = w / 256 % 16 * 2 + w / 128 % 2 := by omega
    have g3 := whole_eq h
    rw [f1, hl] at g3
    generalize w / 33554432 % 64 = q1 at *
    generalize w / 2147483648 = q2 at *
    generalize w / 33554432 = q3 at *
    generalize w / 256 % 16 = q4 at *
    generalize w / 128 % 2 = q5 at *
    omega
  | upper =>
    have rf := R.f0 (by rw [e]; exact fun z => by cases z) (by rw [e]; exact fun z => by cases z)
    have rp := R.p0 (.inl e)
    have rl := R.l
    dsimp only [rd]
    rw [m5, p7, p12]
    refine ⟨by rw [e]; exact ⟨by omega, by omega, rfl⟩, ?_⟩
    unfold wordM
    rw [e, if_neg (by intro z; cases z)]
    dsimp only [wr]
    rw [rf, rp, fin_upper (by omega) (by omega) rl]
    omega
  | jump =>
    have rf := R.f0 (by rw [e]; exact fun z => by cases z) (by rw [e]; exact fun z => by cases z)
    have rp := R.p0 (.inr e)
    have rl := R.l
    dsimp only [rd]
    rw [m5, p7, rJ_eq (w := w) (by omega) (by omega) (by omega) (by omega) rfl rfl rfl rfl]
    obtain ⟨k0, k1, k2, k3, k4, k5⟩ := sgn21 (f20 := w / 2147483648) (f12 := w / 4096 % 256) (f11 := w / 1048576 % 2) (f1 := w / 2097152 % 1024) (by omega) (by omega) (by omega) (by omega) rfl
    refine ⟨by rw [e]; exact ⟨by omega, ⟨k0, k1⟩, rfl⟩, ?_⟩
    unfold wordM
    rw [e, if_neg (by intro z; cases z)]
    dsimp only [wr]
    rw [rf, rp, wJ_eq (by omega) rl, k2, k3, k4, k5]
    clear k0 k1 k2 k3 k4 k5
    have g1 : w = w / 4096 * 4096 + w / 128 % 32 * 128 + w % 128 := by omega
    have g2 : w / 4096 = w / 1048576 * 256 + w / 4096 % 256 := by omega
    have g3 : w / 1048576 = w / 2097152 * 2 + w / 1048576 % 2 := by omega
    have g4 : w / 2097152 = w / 2147483648 * 1024 + w / 2097152 % 1024 := by omega
    rw [hl] at g1
    generalize w / 128 % 32 = q1 at *
    generalize w / 4096 % 256 = q2 at *
    generalize w / 1048576 % 2 = q3 at *
    generalize w / 2097152 % 1024 = q4 at *
    generalize w / 4096 = q5 at *
    generalize w / 1048576 = q6 at *
    generalize w / 2097152 = q7 at *
    generalize w / 2147483648 = q8 at *
    omega
  | whole =>
    rw [e] at hf
    dsimp only at hf
    have f1 := of_decide_eq_true hf
    refine ⟨by rw [e]; exact ⟨rfl, rfl, rfl⟩, ?_⟩
    unfold wordM
    rw [e, if_pos rfl, f1]

/-! ### which words are told -/
def known (w : Int) : Bool :=
  if w % 128 = 55 ∨ w % 128 = 23 ∨ w % 128 = 111 then true
  else if w % 128 = 51 then decide (w / 33554432 = 0 ∨ w / 33554432 = 1) || (decide (w / 33554432 = 32) && decide (w / 4096 % 8 = 0 ∨ w / 4096 % 8 = 5))
  else if w % 128 = 19 then (!decide (w / 4096 % 8 = 1 ∨ w / 4096 % 8 = 5)) || (decide (w / 33554432 = 0) || (decide (w / 4096 % 8 = 5) && decide (w / 33554432 = 32)))
  else if w % 128 = 3 then decide (w / 4096 % 8 = 0 ∨ w / 4096 % 8 = 1 ∨ w / 4096 % 8 = 2 ∨ w / 4096 % 8 = 4 ∨ w / 4096 % 8 = 5)
  else if w % 128 = 103 then decide (w / 4096 % 8 = 0)
  else if w % 128 = 35 then decide (w / 4096 % 8 < 3)
  else if w % 128 = 99 then !decide (w / 4096 % 8 = 2 ∨ w / 4096 % 8 = 3)
  else decide (w = 115 ∨ w = 1048691 ∨ w = 267386895)
/-- what fnd asks, by the fields -/
def fq (o : Nat) (w t s : Int) : Bool := match fo o with
  | .whole => decide (w = pa o)
  | .upper | .jump => true
  | .three | .shift => decide (t = pa o) && decide (s = fi o)
  | _ => decide (t = pa o)
theorem fnd_fq (o : Nat) (w : Int) : fnd o w = fq o w (w / 4096 % 8) (w / 33554432) := by
  unfold fnd fq
  rw [m3, p12, p25]
theorem find_any {p : Nat → Bool} : ∀ (l : List Nat), (l.find? p).isSome = l.any p
  | [] => rfl
  | a :: l => by
    rw [List.any_cons, List.find?_cons]
    cases e : p a with
    | true => rfl
    | false => rw [Bool.false_or]; exact find_any l
theorem b51 : byl 51 = [0, 1, 2, 3, 4, 5, 6, 7, 8, 9, 10, 11, 12, 13, 14, 15, 16, 17] := by decide +kernel
theorem b19 : byl 19 = [18, 19, 20, 21, 22, 23, 24, 25, 26] := by decide +kernel
theorem b3 : byl 3 = [27, 28, 29, 30, 31] := by decide +kernel
theorem b103 : byl 103 = [32] := by decide +kernel
theorem b35 : byl 35 = [33, 34, 35] := by decide +kernel
theorem b99 : byl 99 = [36, 37, 38, 39, 40, 41] := by decide +kernel
theorem b55 : byl 55 = [42] := by decide +kernel
theorem b23 : byl 23 = [43] := by decide +kernel
theorem b111 : byl 111 = [44] := by decide +kernel
theorem b115 : byl 115 = [45, 46] := by decide +kernel
theorem b15 : byl 15 = [47] := by decide +kernel
theorem bno {l : Int} (h : l ≠ 51 ∧ l ≠ 19 ∧ l ≠ 3 ∧ l ≠ 103 ∧ l ≠ 35 ∧ l ≠ 99 ∧ l ≠ 55 ∧ l ≠ 23 ∧ l ≠ 111 ∧ l ≠ 115 ∧ l ≠ 15) : byl l = [] := by
  have k : ∀ o, o < 48 → la o ∈ ([51, 19, 3, 103, 35, 99, 55, 23, 111, 115, 15] : List Int) := by decide +kernel
  cases e : byl l with
  | nil => rfl
  | cons o r =>
    obtain ⟨h1, h2⟩ := byl_mem (l := l) (o := o) (by rw [e]; exact List.mem_cons_self)
    have := k o h1
    rw [h2] at this
    simp only [List.mem_cons, List.not_mem_nil, or_false] at this
    omega
theorem known_is {w : Int} (h : 0 ≤ w ∧ w < 4294967296) : (decM w).isSome = known w := by
  unfold decM
  rw [m7, find_any]
  simp only [fnd_fq]
  unfold known
  have ht : w / 4096 % 8 = 0 ∨ w / 4096 % 8 = 1 ∨ w / 4096 % 8 = 2 ∨ w / 4096 % 8 = 3 ∨ w / 4096 % 8 = 4 ∨ w / 4096 % 8 = 5 ∨ w / 4096 % 8 = 6 ∨ w / 4096 % 8 = 7 := by omega
  by_cases c55 : w % 128 = 55
  · rw [c55, b55]; rfl
  by_cases c23 : w % 128 = 23
  · rw [c23, b23]; rfl
  by_cases c111 : w % 128 = 111
  · rw [c111, b111]; rfl
  rw [if_neg (by omega)]
  generalize hs : w / 33554432 = s at *
  generalize w / 4096 % 8 = t at *
  by_cases c51 : w % 128 = 51
  · rw [if_pos c51, c51, b51]
    rcases ht with e | e | e | e | e | e | e | e <;> subst e <;> by_cases s0 : s = 0 <;> by_cases s1 : s = 1 <;> by_cases s2 : s = 32 <;> simp [fq, fo, fos, pa, pas, fi, fis, s0, s1, s2] <;> (try omega)
  rw [if_neg c51]
  by_cases c19 : w % 128 = 19
  · rw [if_pos c19, c19, b19]
    rcases ht with e | e | e | e | e | e | e | e <;> subst e <;> by_cases s0 : s = 0 <;> by_cases s2 : s = 32 <;> simp [fq, fo, fos, pa, pas, fi, fis, s0, s2] <;> (try omega)
  rw [if_neg c19]
  by_cases c3 : w % 128 = 3
  · rw [if_pos c3, c3, b3]
    rcases ht with e | e | e | e | e | e | e | e <;> subst e <;> rfl
  rw [if_neg c3]
  by_cases c103 : w % 128 = 103
  · rw [if_pos c103, c103, b103]
    rcases ht with e | e | e | e | e | e | e | e <;> subst e <;> rfl
  rw [if_neg c103]
  by_cases c35 : w % 128 = 35
  · rw [if_pos c35, c35, b35]
    rcases ht with e | e | e | e | e | e | e | e <;> subst e <;> rfl
  rw [if_neg c35]
  by_cases c99 : w % 128 = 99
  · rw [if_pos c99, c99, b99]
    rcases ht with e | e | e | e | e | e | e | e <;> subst e <;> rfl
  rw [if_neg c99]
  by_cases c115 : w % 128 = 115
  · rw [c115, b115]
    by_cases e1 : w = 115 <;> by_cases e2 : w = 1048691 <;> simp [fq, fo, fos, pa, pas, e1, e2] <;> (try omega)
  by_cases c15 : w % 128 = 15
  · rw [c15, b15]
    by_cases e1 : w = 267386895 <;> simp [fq, fo, fos, pa, pas, e1] <;> (try omega)
  rw [bno ⟨c51, c19, c3, c103, c35, c99, c55, c23, c111, c115, c15⟩]
  symm
  rw [List.any_nil]
  refine decide_eq_false ?_
  omega
/-- what decode tells -/
theorem dec_told {w : Int} (h : 0 ≤ w ∧ w < 4294967296) {o : Nat} (e : decM w = some o) : o < 48 ∧ Told o w (rd (fo o) w).1 (rd (fo o) w).2.1 (rd (fo o) w).2.2 := by
  unfold decM at e
  obtain ⟨ho, hl⟩ := byl_mem (List.mem_of_find?_eq_some e)
  rw [m7] at hl
  exact ⟨ho, told ho h hl.symm (by simpa using List.find?_some e)⟩
end I6

namespace I6
open PySem PyProof.Rows L2 B6 TL NumText
open Builtin.Str (strSub)
/-! ### texts of instructions -/
def posOf : List Str → Str → Option Nat
  | [], _ => none
  | x :: r, s => if x = s then some 0 else (posOf r s).map (· + 1)
theorem posOf_some : ∀ {l : List Str} {s : Str} {j : Nat}, posOf l s = some j → l[j]? = some s ∧ ∀ m, m < j → l[m]? ≠ some s
  | [], s, j, h => by cases h
  | x :: r, s, j, h => by
    unfold posOf at h
    by_cases c : x = s
    · rw [if_pos c] at h
      injection h with h
      subst h c
      exact ⟨rfl, fun m hm => absurd hm (Nat.not_lt_zero _)⟩
    · rw [if_neg c] at h
      cases e : posOf r s with
      | none => rw [e] at h; cases h
      | some k =>
        rw [e] at h
        injection h with h
        subst h
        obtain ⟨a, b⟩ := posOf_some e
        refine ⟨a, fun m hm => ?_⟩
        cases m with
        | zero => intro z; injection z with z; exact c z
        | succ m => exact b m (by have : m + 1 < k + 1 := hm; omega)
theorem posOf_none : ∀ {l : List Str} {s : Str}, posOf l s = none → s ∉ l
  | [], s, _ => by simp
  | x :: r, s, h => by
    unfold posOf at h
    by_cases c : x = s
    · rw [if_pos c] at h; cases h
    · rw [if_neg c] at h
      cases e : posOf r s with
      | none =>
        intro m
        rcases List.mem_cons.mp m with m | m
        · exact c m.symm
        · exact posOf_none e m
      | some k => rw [e] at h; cases h
theorem posOf_lt {l : List Str} {s : Str} {j : Nat} (h : posOf l s = some j) : j < l.length := (List.getElem?_eq_some_iff.mp (posOf_some h).1).1
def regs : List Str := regsS.map Str.ofString
def nms : List Str := nmsS.map Str.ofString
def loads : List Str := ["lb", "lh", "lw", "lbu", "lhu"]
def rg (i : Int) : Str := regs.getD i.toNat Str.empty
def num (i : Int) : Str := (toString i : String)
def regO (t : Str) : O := (posOf regs t).map fun j => (j : Int)
def digs (t : Str) : Bool := (tl t).all fun c => decide (48 ≤ c ∧ c ≤ 57)
def numO (t : Str) : O := if Txt.removeprefix t "-" = Str.empty ∨ 8 < t.length ∨ digs (Txt.removeprefix t "-") = false then none else intText? t
theorem nm_pos : ∀ o, o < 48 → posOf nms (nm o) = some o := by decide +kernel
theorem nm_get {o : Nat} (h : o < 48) : nms[o]? = some (nm o) := (posOf_some (nm_pos o h)).1
theorem pos_nm {s : Str} {o : Nat} (h : posOf nms s = some o) : o < 48 ∧ s = nm o := by
  have h1 : o < 48 := posOf_lt h
  refine ⟨h1, ?_⟩
  have := (posOf_some h).1
  rw [nm_get h1] at this
  injection this with this
  exact this.symm
theorem rg_pos' : ∀ i, i < 32 → posOf regs (regs.getD i Str.empty) = some i := by decide +kernel
theorem regO_rg {i : Int} (h : 0 ≤ i ∧ i < 32) : regO (rg i) = some i := by
  unfold regO rg
  rw [rg_pos' i.toNat (by omega)]
  show some ((i.toNat : Nat) : Int) = some i
  rw [Int.toNat_of_nonneg h.1]
theorem rg_get {i : Int} (h : 0 ≤ i ∧ i < 32) : regs[i.toNat]? = some (rg i) := (posOf_some (rg_pos' i.toNat (by omega))).1
theorem nm_low : ∀ o, o < 48 → ∀ c, c ∈ tl (nm o) → 97 ≤ c ∧ c ≤ 122 := by
  have k : ∀ o, o < 48 → (tl (nm o)).all (fun c => decide (97 ≤ c ∧ c ≤ 122)) = true := by decide +kernel
  intro o h c hc
  exact of_decide_eq_true (List.all_eq_true.mp (k o h) c hc)
theorem nm_len : ∀ o, o < 48 → (tl (nm o)).length ≤ 6 ∧ 0 < (tl (nm o)).length := by decide +kernel
theorem rg_low {i : Int} (h : 0 ≤ i ∧ i < 32) : ∀ c, c ∈ tl (rg i) → (97 ≤ c ∧ c ≤ 122) ∨ (48 ≤ c ∧ c ≤ 57) := by
  have k : ∀ i, i < 32 → (tl (regs.getD i Str.empty)).all (fun c => decide ((97 ≤ c ∧ c ≤ 122) ∨ (48 ≤ c ∧ c ≤ 57))) = true := by decide +kernel
  intro c hc
  exact of_decide_eq_true (List.all_eq_true.mp (k i.toNat (by omega)) c hc)
theorem rg_len {i : Int} (h : 0 ≤ i ∧ i < 32) : (tl (rg i)).length ≤ 4 ∧ 0 < (tl (rg i)).length := by
  have k : ∀ i, i < 32 → (tl (regs.getD i Str.empty)).length ≤ 4 ∧ 0 < (tl (regs.getD i Str.empty)).length := by decide +kernel
  exact k i.toNat (by omega)
theorem tl_pos {i : Int} (h : 0 ≤ i) : tl (num i) = numL i.toNat := by
  obtain ⟨n, rfl⟩ := Int.eq_ofNat_of_zero_le h
  exact tl_num n
theorem tl_neg {i : Int} (h : i < 0) : tl (num i) = 45 :: numL (-i).toNat := by
  obtain ⟨m, rfl⟩ := Int.eq_negSucc_of_lt_zero h
  have e : toString (Int.negSucc m) = "-" ++ toString ((m + 1 : Nat) : Int) := rfl
  show tl (Str.ofString (toString (Int.negSucc m))) = _
  rw [e, tl_ofString, String.toList_append, List.map_append, ← tl_ofString, ← tl_ofString, tl_num]
  rfl
theorem num_chars {i : Int} : ∀ c, c ∈ tl (num i) → c = 45 ∨ (48 ≤ c ∧ c ≤ 57) := by
  intro c hc
  by_cases h : 0 ≤ i
  · rw [tl_pos h] at hc
    exact .inr (numL_digits _ c hc)
  · rw [tl_neg (by omega)] at hc
    rcases List.mem_cons.mp hc with hc | hc
    · exact .inl hc
    · exact .inr (numL_digits _ c hc)
theorem num_len {i : Int} (h : -10000000 < i ∧ i < 10000000) : (tl (num i)).length ≤ 8 := by
  by_cases c : 0 ≤ i
  · rw [tl_pos c]
    have := numL_len (n := i.toNat) (k := 7) (by decide) (by have : (10 : Nat) ^ 7 = 10000000 := by decide
                                                             omega)
    omega
  · rw [tl_neg (by omega), List.length_cons]
    have := numL_len (n := (-i).toNat) (k := 7) (by decide) (by have : (10 : Nat) ^ 7 = 10000000 := by decide
                                                                omega)
    omega
theorem minus_tl : tl ("-" : Str) = [45] := by decide +kernel
theorem open_tl : tl ("(" : Str) = [40] := by decide +kernel
theorem close_tl : tl (")" : Str) = [41] := by decide +kernel
theorem blank_tl : tl (" " : Str) = [32] := by decide +kernel
theorem sep_tl : tl (", " : Str) = [44, 32] := by decide +kernel
theorem tl_empty : tl Str.empty = [] := rfl
theorem subAt_tl (x y : Str) (i : Nat) : Builtin.Str.subAt x y i = decide (((tl x).drop i).take (tl y).length = tl y) := by
  unfold Builtin.Str.subAt
  have e : (x.cps.extract i (i + y.length)).toList = ((tl x).drop i).take (tl y).length := by
    rw [Array.toList_extract, List.extract_eq_drop_take]
    show List.take (i + y.length - i) (List.drop i (tl x)) = _
    rw [len_tl, Nat.add_sub_cancel_left]
  by_cases c : ((tl x).drop i).take (tl y).length = tl y
  · rw [decide_eq_true c]
    rw [beq_iff_eq]
    apply Array.toList_inj.mp
    rw [e]; exact c
  · rw [decide_eq_false c]
    rw [beq_eq_false_iff_ne]
    intro z
    apply c
    rw [← e, z]
theorem removeprefix_tl (x y : Str) : tl (Txt.removeprefix x y) = if (tl x).take (tl y).length = tl y then (tl x).drop (tl y).length else tl x := by
  unfold Txt.removeprefix
  rw [subAt_tl, List.drop_zero]
  by_cases c : (tl x).take (tl y).length = tl y
  · rw [if_pos c, if_pos (decide_eq_true c)]
    show tl (if (x.length - y.length == x.length) = true then x else strSub x y.length x.length) = _
    split
    · rename_i h
      have h := of_decide_eq_true h
      have hl : (tl y).length = 0 ∨ (tl x).length = 0 := by rw [len_tl x, len_tl y] at h; omega
      rcases hl with hl | hl
      · rw [hl]; rfl
      · have : tl x = [] := List.length_eq_zero_iff.mp hl
        rw [this]; simp
    · rw [tl_strSub_end, len_tl y]
  · rw [if_neg c, if_neg (by simpa using c)]
    rfl
theorem removesuffix_tl (x y : Str) : tl (Txt.removesuffix x y) = if (tl y).length ≤ (tl x).length ∧ (tl x).drop ((tl x).length - (tl y).length) = tl y then (tl x).take ((tl x).length - (tl y).length) else tl x := by
  unfold Txt.removesuffix
  rw [subAt_tl, len_tl x, len_tl y]
  have e : List.take (tl y).length (List.drop ((tl x).length - (tl y).length) (tl x)) = List.drop ((tl x).length - (tl y).length) (tl x) ∨ ¬ (tl y).length ≤ (tl x).length := by
    by_cases h : (tl y).length ≤ (tl x).length
    · left
      apply List.take_of_length_le
      rw [List.length_drop]; omega
    · exact .inr h
  rcases e with e | e
  · rw [e]
    by_cases c : (tl y).length ≤ (tl x).length ∧ (tl x).drop ((tl x).length - (tl y).length) = tl y
    · rw [if_pos c, if_pos (by simpa using c)]
      show tl (if ((tl x).length - (tl y).length - 0 == x.length) = true then x else strSub x 0 ((tl x).length - (tl y).length)) = _
      split
      · rename_i h
        have h := of_decide_eq_true h
        rw [len_tl x, Nat.sub_zero] at h
        rw [List.take_of_length_le (by omega)]
      · rw [tl_strSub, List.drop_zero, Nat.sub_zero]
    · rw [if_neg c, if_neg (by simpa using c)]
      rfl
  · rw [if_neg (show ¬ (_ && _) = true from by rw [Bool.and_eq_true_iff]; exact fun z => e (of_decide_eq_true z.1)), if_neg (fun z => e z.1)]
    rfl
theorem int_neg {i : Int} (h : i < 0) (hl : (tl (num i)).length ≤ 8) : intText? (num i) = some i := by
  have e := intText_neg (x := num i) (cs := numL (-i).toNat) (tl_neg h) (numL_digits _) (numL_ne _) (by rw [len_tl]; omega)
  rw [numL_val] at e
  rw [e]
  congr 1
  omega
theorem int_of {i : Int} (h : -10000000 < i ∧ i < 10000000) : intText? (num i) = some i := by
  by_cases c : 0 ≤ i
  · obtain ⟨n, rfl⟩ := Int.eq_ofNat_of_zero_le c
    refine int_num ?_
    have := num_len h
    rw [tl_pos c] at this
    exact Nat.le_trans this (by decide)
  · exact int_neg (by omega) (num_len h)
theorem str_ne {x : Str} (h : tl x ≠ []) : x ≠ Str.empty := fun z => h (by rw [z]; rfl)
theorem numO_num {i : Int} (h : -10000000 < i ∧ i < 10000000) : numO (num i) = some i := by
  unfold numO
  have e : tl (Txt.removeprefix (num i) "-") = numL i.natAbs := by
    rw [removeprefix_tl, minus_tl]
    by_cases c : 0 ≤ i
    · rw [tl_pos c, show i.toNat = i.natAbs by omega, if_neg]
      intro z
      have := numL_digits i.natAbs 45 (by
        have : [45] = List.take [45].length (numL i.natAbs) := z.symm
        have m : 45 ∈ List.take [45].length (numL i.natAbs) := by rw [← this]; simp
        exact List.mem_of_mem_take m)
      omega
    · rw [tl_neg (by omega), if_pos (show List.take [45].length (45 :: numL (-i).toNat) = [45] from rfl), show (-i).toNat = i.natAbs by omega]
      rfl
  rw [if_neg, int_of h]
  rintro (z | z | z)
  · have : tl (Txt.removeprefix (num i) "-") = [] := by rw [z]; rfl
    rw [e] at this
    exact numL_ne _ this
  · rw [len_tl] at z
    have := num_len h
    omega
  · unfold digs at z
    rw [e] at z
    have : (numL i.natAbs).all (fun c => decide (48 ≤ c ∧ c ≤ 57)) = true := List.all_eq_true.mpr fun c hc => decide_eq_true (numL_digits _ c hc)
    rw [this] at z
    cases z
def isLd (o : Nat) : Bool := decide (27 ≤ o) && decide (o ≤ 31)
def txM (o : Nat) (a b c : Int) : Str := match fo o with
  | .whole => nm o
  | .store => Str.empty ++ nm o ++ " " ++ rg b ++ ", " ++ num c ++ "(" ++ rg a ++ ")"
  | .upper | .jump => Str.empty ++ nm o ++ " " ++ rg a ++ ", " ++ num b
  | .three => Str.empty ++ nm o ++ " " ++ rg a ++ ", " ++ rg b ++ ", " ++ rg c
  | .number => if isLd o = true then Str.empty ++ nm o ++ " " ++ rg a ++ ", " ++ num c ++ "(" ++ rg b ++ ")" else Str.empty ++ nm o ++ " " ++ rg a ++ ", " ++ rg b ++ ", " ++ num c
  | .shift | .branch => Str.empty ++ nm o ++ " " ++ rg a ++ ", " ++ rg b ++ ", " ++ num c
def nmI (t : Str) : Option Fo := (posOf nms t).map fo
def partsM (t : Str) : V × O × O × O :=
  if nmI (Txt.partition t " ").1 = some .whole then (.str (Txt.partition t " ").1, some 0, some 0, some 0)
  else if nmI (Txt.partition t " ").1 = some .store ∨ (Txt.partition t " ").1 ∈ loads then
    (if nmI (Txt.partition t " ").1 = some .store then
      (.str (Txt.partition t " ").1, regO (Txt.removesuffix (Txt.partition ((Txt.split (Txt.partition t " ").2.2 ", ").getLastD Str.empty) "(").2.2 ")"), regO ((Txt.split (Txt.partition t " ").2.2 ", ").headD Str.empty), numO (Txt.partition ((Txt.split (Txt.partition t " ").2.2 ", ").getLastD Str.empty) "(").1)
    else (.str (Txt.partition t " ").1, regO ((Txt.split (Txt.partition t " ").2.2 ", ").headD Str.empty), regO (Txt.removesuffix (Txt.partition ((Txt.split (Txt.partition t " ").2.2 ", ").getLastD Str.empty) "(").2.2 ")"), numO (Txt.partition ((Txt.split (Txt.partition t " ").2.2 ", ").getLastD Str.empty) "(").1))
  else if nmI (Txt.partition t " ").1 = some .upper ∨ nmI (Txt.partition t " ").1 = some .jump then
    (.str (Txt.partition t " ").1, regO ((Txt.split (Txt.partition t " ").2.2 ", ").headD Str.empty), numO ((Txt.split (Txt.partition t " ").2.2 ", ").getLastD Str.empty), some 0)
  else if nmI (Txt.partition t " ").1 = none ∨ (Txt.split (Txt.partition t " ").2.2 ", ").length ≠ 3 then (.non, some 0, some 0, some 0)
  else (.str (Txt.partition t " ").1, regO ((Txt.split (Txt.partition t " ").2.2 ", ").headD Str.empty), regO ((Txt.split (Txt.partition t " ").2.2 ", ").getD 1 Str.empty),
    if nmI (Txt.partition t " ").1 = some .three then regO ((Txt.split (Txt.partition t " ").2.2 ", ").getD 2 Str.empty) else numO ((Txt.split (Txt.partition t " ").2.2 ", ").getD 2 Str.empty))
theorem fr_rg {i : Int} (h : 0 ≤ i ∧ i < 32) {c : Nat} (hc : c < 48) : c ∉ tl (rg i) := fun m => by have := rg_low h c m; omega
theorem fr_num {i : Int} {c : Nat} (hc : c < 45) : c ∉ tl (num i) := fun m => by have := num_chars c m; omega
theorem fr_nm {o : Nat} (h : o < 48) : 32 ∉ tl (nm o) := fun m => by have := nm_low o h 32 m; omega
theorem app_assoc (a b c : Str) : a ++ b ++ c = a ++ (b ++ c) := ext_tl (by rw [tl_append, tl_append, tl_append, tl_append, List.append_assoc])
theorem emp_app (a : Str) : Str.empty ++ a = a := ext_tl (by rw [tl_append]; rfl)
theorem cut_first {o : Nat} (h : o < 48) (r : Str) : Txt.partition (Str.empty ++ nm o ++ " " ++ r) " " = (nm o, ((" " : Str), r)) := by
  rw [emp_app]
  exact partition_app blank_tl (fr_nm h)
theorem cut_none {o : Nat} (h : o < 48) : Txt.partition (nm o) " " = (nm o, Str.empty, Str.empty) := partition_none blank_tl (fr_nm h)
theorem split2 {a b : Str} (ha : 44 ∉ tl a) (hb : 44 ∉ tl b) : Txt.split (a ++ ", " ++ b) ", " = [a, b] := by
  have := split_join (y := ", ") sep_tl (by decide +kernel) (parts := [a, b]) (by simp) (fun p hp => by
    simp only [List.mem_cons, List.not_mem_nil, or_false] at hp
    rcases hp with e | e <;> subst e <;> assumption)
  rw [join_eq] at this
  exact this
theorem split3 {a b c : Str} (ha : 44 ∉ tl a) (hb : 44 ∉ tl b) (hc : 44 ∉ tl c) : Txt.split (a ++ ", " ++ b ++ ", " ++ c) ", " = [a, b, c] := by
  have := split_join (y := ", ") sep_tl (by decide +kernel) (parts := [a, b, c]) (by simp) (fun p hp => by
    simp only [List.mem_cons, List.not_mem_nil, or_false] at hp
    rcases hp with e | e | e <;> subst e <;> assumption)
  rw [join_eq] at this
  rw [show a ++ ", " ++ b ++ ", " ++ c = Str.join ", " [a, b, c] from by
    show a ++ ", " ++ b ++ ", " ++ c = a ++ ", " ++ (b ++ ", " ++ c)
    rw [app_assoc (a ++ ", ") b, app_assoc (a ++ ", "), ]]
  exact this
theorem close_rg {i : Int} (h : 0 ≤ i ∧ i < 32) : Txt.removesuffix (rg i ++ ")") ")" = rg i := by
  refine ext_tl ?_
  rw [removesuffix_tl, close_tl, tl_append, close_tl, List.length_append]
  have e : (tl (rg i)).length + [41].length - [41].length = (tl (rg i)).length := Nat.add_sub_cancel _ _
  rw [e, List.drop_left, List.take_left, if_pos ⟨Nat.le_add_left _ _, rfl⟩]
theorem cut_num {n : Int} (r : Str) : Txt.partition (num n ++ "(" ++ r) "(" = (num n, (("(" : Str), r)) := partition_app open_tl (fr_num (by decide))
theorem ld_fo : ∀ o, o < 48 → (nm o ∈ loads ↔ isLd o = true) := by decide +kernel
theorem st_ld : ∀ o, o < 48 → isLd o = true → fo o = .number := by decide +kernel
/-- what is written is read again -/
theorem back {o : Nat} (ho : o < 48) {a b c : Int} (h : okI (fo o) a b c) : partsM (txM o a b c) = (.str (nm o), some a, some b, some c) := by
  have hf : nmI (nm o) = some (fo o) := by unfold nmI; rw [nm_pos o ho]; rfl
  have nl : fo o ≠ .number → ¬ nm o ∈ loads := fun z m => z (st_ld o ho ((ld_fo o ho).mp m))
  have hmem : ∀ {d1 d2 : Int}, fo o = .number → isLd o = true → -2048 ≤ d1 ∧ d1 ≤ 2047 → True := fun _ _ _ => trivial
  unfold txM
  cases e : fo o with
  | whole =>
    rw [e] at h hf
    obtain ⟨rfl, rfl, rfl⟩ := h
    dsimp only
    unfold partsM
    rw [cut_none ho]
    dsimp only
    rw [hf, if_pos rfl]
  | store =>
    rw [e] at h hf
    obtain ⟨ha, hb, hc⟩ := h
    dsimp only
    rw [show Str.empty ++ nm o ++ " " ++ rg b ++ ", " ++ num c ++ "(" ++ rg a ++ ")" = Str.empty ++ nm o ++ " " ++ (rg b ++ ", " ++ (num c ++ "(" ++ (rg a ++ ")"))) from by simp only [app_assoc]]
    unfold partsM
    rw [cut_first ho]
    dsimp only
    rw [split2 (fr_rg hb (by decide)) (by
      rw [tl_append, tl_append, tl_append, open_tl, close_tl]
      simp only [List.mem_append, List.mem_singleton]
      rintro ((m | m) | m | m)
      · exact fr_num (by decide) m
      · cases m
      · exact fr_rg ha (by decide) m
      · cases m), hf, if_neg (by intro z; cases z), if_pos (Or.inl rfl), if_pos rfl]
    rw [show ([rg b, num c ++ "(" ++ (rg a ++ ")")] : List Str).getLastD Str.empty = num c ++ "(" ++ (rg a ++ ")") from rfl, cut_num]
    show (V.str (nm o), regO (Txt.removesuffix (rg a ++ ")") ")"), regO (rg b), numO (num c)) = _
    rw [close_rg ha, regO_rg ha, regO_rg hb, numO_num (by omega)]
  | upper =>
    rw [e] at h hf
    obtain ⟨ha, hb, rfl⟩ := h
    dsimp only
    rw [show Str.empty ++ nm o ++ " " ++ rg a ++ ", " ++ num b = Str.empty ++ nm o ++ " " ++ (rg a ++ ", " ++ num b) from by simp only [app_assoc]]
    unfold partsM
    rw [cut_first ho]
    dsimp only
    rw [split2 (fr_rg ha (by decide)) (fr_num (by decide)), hf, if_neg (by intro z; cases z), if_neg (by rintro (z | z); cases z; exact nl (by rw [e]; intro z; cases z) z), if_pos (Or.inl rfl)]
    rw [show ([rg a, num b] : List Str).getLastD Str.empty = num b from rfl, show ([rg a, num b] : List Str).headD Str.empty = rg a from rfl, regO_rg ha, numO_num (by omega)]
  | jump =>
    rw [e] at h hf
    obtain ⟨ha, hb, rfl⟩ := h
    dsimp only
    rw [show Str.empty ++ nm o ++ " " ++ rg a ++ ", " ++ num b = Str.empty ++ nm o ++ " " ++ (rg a ++ ", " ++ num b) from by simp only [app_assoc]]
    unfold partsM
    rw [cut_first ho]
    dsimp only
    rw [split2 (fr_rg ha (by decide)) (fr_num (by decide)), hf, if_neg (by intro z; cases z), if_neg (by rintro (z | z); cases z; exact nl (by rw [e]; intro z; cases z) z), if_pos (Or.inr rfl)]
    rw [show ([rg a, num b] : List Str).getLastD Str.empty = num b from rfl, show ([rg a, num b] : List Str).headD Str.empty = rg a from rfl, regO_rg ha, numO_num (by omega)]
  | three =>
    rw [e] at h hf
    obtain ⟨ha, hb, hc⟩ := h
    dsimp only
    rw [show Str.empty ++ nm o ++ " " ++ rg a ++ ", " ++ rg b ++ ", " ++ rg c = Str.empty ++ nm o ++ " " ++ (rg a ++ ", " ++ rg b ++ ", " ++ rg c) from by simp only [app_assoc]]
    unfold partsM
    rw [cut_first ho]
    dsimp only
    rw [split3 (fr_rg ha (by decide)) (fr_rg hb (by decide)) (fr_rg hc (by decide)), hf, if_neg (by intro z; cases z), if_neg (by rintro (z | z); cases z; exact nl (by rw [e]; intro z; cases z) z), if_neg (by rintro (z | z) <;> cases z), if_neg (by rintro (z | z); cases z; exact z rfl), if_pos rfl]
    show (V.str (nm o), regO (rg a), regO (rg b), regO (rg c)) = _
    rw [regO_rg ha, regO_rg hb, regO_rg hc]
  | shift =>
    rw [e] at h hf
    obtain ⟨ha, hb, hc⟩ := h
    dsimp only
    rw [show Str.empty ++ nm o ++ " " ++ rg a ++ ", " ++ rg b ++ ", " ++ num c = Str.empty ++ nm o ++ " " ++ (rg a ++ ", " ++ rg b ++ ", " ++ num c) from by simp only [app_assoc]]
    unfold partsM
    rw [cut_first ho]
    dsimp only
    rw [split3 (fr_rg ha (by decide)) (fr_rg hb (by decide)) (fr_num (by decide)), hf, if_neg (by intro z; cases z), if_neg (by rintro (z | z); cases z; exact nl (by rw [e]; intro z; cases z) z), if_neg (by rintro (z | z) <;> cases z), if_neg (by rintro (z | z); cases z; exact z rfl), if_neg (by intro z; cases z)]
    show (V.str (nm o), regO (rg a), regO (rg b), numO (num c)) = _
    rw [regO_rg ha, regO_rg hb, numO_num (by omega)]
  | branch =>
    rw [e] at h hf
    obtain ⟨ha, hb, hc⟩ := h
    dsimp only
    rw [show Str.empty ++ nm o ++ " " ++ rg a ++ ", " ++ rg b ++ ", " ++ num c = Str.empty ++ nm o ++ " " ++ (rg a ++ ", " ++ rg b ++ ", " ++ num c) from by simp only [app_assoc]]
    unfold partsM
    rw [cut_first ho]
    dsimp only
    rw [split3 (fr_rg ha (by decide)) (fr_rg hb (by decide)) (fr_num (by decide)), hf, if_neg (by intro z; cases z), if_neg (by rintro (z | z); cases z; exact nl (by rw [e]; intro z; cases z) z), if_neg (by rintro (z | z) <;> cases z), if_neg (by rintro (z | z); cases z; exact z rfl), if_neg (by intro z; cases z)]
    show (V.str (nm o), regO (rg a), regO (rg b), numO (num c)) = _
    rw [regO_rg ha, regO_rg hb, numO_num (by omega)]
  | number =>
    rw [e] at h hf
    obtain ⟨ha, hb, hc⟩ := h
    dsimp only
    by_cases cl : isLd o = true
    · rw [if_pos cl]
      rw [show Str.empty ++ nm o ++ " " ++ rg a ++ ", " ++ num c ++ "(" ++ rg b ++ ")" = Str.empty ++ nm o ++ " " ++ (rg a ++ ", " ++ (num c ++ "(" ++ (rg b ++ ")"))) from by simp only [app_assoc]]
      unfold partsM
      rw [cut_first ho]
      dsimp only
      rw [split2 (fr_rg ha (by decide)) (by
        rw [tl_append, tl_append, tl_append, open_tl, close_tl]
        simp only [List.mem_append, List.mem_singleton]
        rintro ((m | m) | m | m)
        · exact fr_num (by decide) m
        · cases m
        · exact fr_rg hb (by decide) m
        · cases m), hf, if_neg (by intro z; cases z), if_pos (Or.inr ((ld_fo o ho).mpr cl)), if_neg (by intro z; cases z)]
      rw [show ([rg a, num c ++ "(" ++ (rg b ++ ")")] : List Str).getLastD Str.empty = num c ++ "(" ++ (rg b ++ ")") from rfl, cut_num]
      show (V.str (nm o), regO (rg a), regO (Txt.removesuffix (rg b ++ ")") ")"), numO (num c)) = _
      rw [close_rg hb, regO_rg ha, regO_rg hb, numO_num (by omega)]
    · rw [if_neg cl]
      rw [show Str.empty ++ nm o ++ " " ++ rg a ++ ", " ++ rg b ++ ", " ++ num c = Str.empty ++ nm o ++ " " ++ (rg a ++ ", " ++ rg b ++ ", " ++ num c) from by simp only [app_assoc]]
      unfold partsM
      rw [cut_first ho]
      dsimp only
      rw [split3 (fr_rg ha (by decide)) (fr_rg hb (by decide)) (fr_num (by decide)), hf, if_neg (by intro z; cases z), if_neg (by rintro (z | z); cases z; exact cl ((ld_fo o ho).mp z)), if_neg (by rintro (z | z) <;> cases z), if_neg (by rintro (z | z); cases z; exact z rfl), if_neg (by intro z; cases z)]
      show (V.str (nm o), regO (rg a), regO (rg b), numO (num c)) = _
      rw [regO_rg ha, regO_rg hb, numO_num (by omega)]
end I6

namespace I6
open PySem PyProof.Rows L2 B6
open Builtin (bitAnd bitOr)
/-! ### written, then read -/
theorem sgn13r {d : Int} (h : -4096 ≤ d ∧ d ≤ 4095) (e : d % 2 = 0) : sgn (d / 4096 % 2 * 4096 + d / 2048 % 2 * 2048 + d / 32 % 64 * 32 + d / 2 % 16 * 2) 4096 = d := by
  unfold sgn
  split <;> omega
theorem sgn21r {d : Int} (h : -1048576 ≤ d ∧ d ≤ 1048575) (e : d % 2 = 0) : sgn (d / 1048576 % 2 * 1048576 + d / 4096 % 256 * 4096 + d / 2048 % 2 * 2048 + d / 2 % 1024 * 2) 1048576 = d := by
  unfold sgn
  split <;> omega
/-- what the word of a right instruction tells -/
structure Back (o : Nat) (w : Int) (a b c : Int) : Prop where
  rng : 0 ≤ w ∧ w < 4294967296
  last : w % 128 = la o
  found : fnd o w = true
  read : rd (fo o) w = (a, b, c)
theorem written {o : Nat} (ho : o < 48) {a b c : Int} (h : okI (fo o) a b c) : Back o (wordM o a b c) a b c := by
  have R := row ho
  have rl := R.l
  have rf := R.f
  cases e : fo o with
  | three =>
    rw [e] at h
    obtain ⟨ha, hb, hc⟩ := h
    have rp := R.p (by rw [e]; exact fun z => by cases z)
    have ew : wordM o a b c = fi o * 33554432 + c * 1048576 + b * 32768 + pa o * 4096 + a * 128 + la o := by
      unfold wordM
      rw [e, if_neg (by intro z; cases z)]
      exact three_back rl rp rf ha hb hc
    rw [ew]
    generalize hw : fi o * 33554432 + c * 1048576 + b * 32768 + pa o * 4096 + a * 128 + la o = w
    have F := fields (w := w) rl ha rp hb hc rf (by omega)
    refine ⟨by omega, F.last, ?_, ?_⟩
    · unfold fnd
      rw [e]
      dsimp only
      rw [m3, p12, p25, F.part, F.first, decide_eq_true rfl, decide_eq_true rfl]; rfl
    · rw [e]
      show (bitAnd (w / 2 ^ 7) 31, bitAnd (w / 2 ^ 15) 31, bitAnd (w / 2 ^ 20) 31) = _
      rw [m5, m5, m5, p7, p15, p20, F.rd, F.one, F.two]
  | shift =>
    rw [e] at h
    obtain ⟨ha, hb, hc⟩ := h
    have rp := R.p (by rw [e]; exact fun z => by cases z)
    have ew : wordM o a b c = fi o * 33554432 + c * 1048576 + b * 32768 + pa o * 4096 + a * 128 + la o := by
      unfold wordM
      rw [e, if_neg (by intro z; cases z)]
      exact three_back rl rp rf ha hb hc
    rw [ew]
    generalize hw : fi o * 33554432 + c * 1048576 + b * 32768 + pa o * 4096 + a * 128 + la o = w
    have F := fields (w := w) rl ha rp hb hc rf (by omega)
    refine ⟨by omega, F.last, ?_, ?_⟩
    · unfold fnd
      rw [e]
      dsimp only
      rw [m3, p12, p25, F.part, F.first, decide_eq_true rfl, decide_eq_true rfl]; rfl
    · rw [e]
      show (bitAnd (w / 2 ^ 7) 31, bitAnd (w / 2 ^ 15) 31, bitAnd (w / 2 ^ 20) 31) = _
      rw [m5, m5, m5, p7, p15, p20, F.rd, F.one, F.two]
  | number =>
    rw [e] at h
    obtain ⟨ha, hb, hc⟩ := h
    have rp := R.p (by rw [e]; exact fun z => by cases z)
    have f0 := R.f0 (by rw [e]; exact fun z => by cases z) (by rw [e]; exact fun z => by cases z)
    have ew : wordM o a b c = c % 4096 * 1048576 + b * 32768 + pa o * 4096 + a * 128 + la o := by
      unfold wordM
      rw [e, if_neg (by intro z; cases z), f0]
      exact number_back rl rp ha hb c
    rw [ew]
    generalize hw : c % 4096 * 1048576 + b * 32768 + pa o * 4096 + a * 128 + la o = w
    have g1 : w % 128 = la o ∧ w / 128 % 32 = a ∧ w / 4096 % 8 = pa o ∧ w / 32768 % 32 = b ∧ w / 1048576 = c % 4096 := by
      have : 0 ≤ c % 4096 ∧ c % 4096 < 4096 := by omega
      generalize c % 4096 = q at *
      refine ⟨by omega, by omega, by omega, by omega, by omega⟩
    refine ⟨by omega, g1.1, ?_, ?_⟩
    · unfold fnd
      rw [e]
      dsimp only
      rw [m3, p12, g1.2.2.1, decide_eq_true rfl]
    · rw [e]
      show (bitAnd (w / 2 ^ 7) 31, bitAnd (w / 2 ^ 15) 31, sgn (w / 2 ^ 20) 2048) = _
      rw [m5, m5, p7, p15, p20, g1.2.1, g1.2.2.2.1, g1.2.2.2.2, sgn12 hc]
  | store =>
    rw [e] at h
    obtain ⟨ha, hb, hc⟩ := h
    have rp := R.p (by rw [e]; exact fun z => by cases z)
    have f0 := R.f0 (by rw [e]; exact fun z => by cases z) (by rw [e]; exact fun z => by cases z)
    have ew : wordM o a b c = c / 32 % 128 * 33554432 + b * 1048576 + a * 32768 + pa o * 4096 + c % 32 * 128 + la o := by
      unfold wordM
      rw [e, if_neg (by intro z; cases z), f0]
      exact store_back rl rp ha hb c
    rw [ew]
    have r1 : 0 ≤ c / 32 % 128 ∧ c / 32 % 128 < 128 := by omega
    have r2 : 0 ≤ c % 32 ∧ c % 32 < 32 := by omega
    have hs := sgn12s hc
    generalize c / 32 % 128 = q1 at *
    generalize c % 32 = q2 at *
    generalize hw : q1 * 33554432 + b * 1048576 + a * 32768 + pa o * 4096 + q2 * 128 + la o = w
    have F := fields (w := w) rl r2 rp ha hb r1 (by omega)
    refine ⟨by omega, F.last, ?_, ?_⟩
    · unfold fnd
      rw [e]
      dsimp only
      rw [m3, p12, F.part, decide_eq_true rfl]
    · rw [e]
      show (bitAnd (w / 2 ^ 15) 31, bitAnd (w / 2 ^ 20) 31, sgn (bitOr (w / 2 ^ 25 * 2 ^ 5) (bitAnd (w / 2 ^ 7) 31)) 2048) = _
      rw [m5, m5, m5, p7, p15, p20, p25, F.rd, F.one, F.two, F.first, sBk r1 r2, hs]
  | branch =>
    rw [e] at h
    obtain ⟨ha, hb, hc, he⟩ := h
    have rp := R.p (by rw [e]; exact fun z => by cases z)
    have f0 := R.f0 (by rw [e]; exact fun z => by cases z) (by rw [e]; exact fun z => by cases z)
    have ew : wordM o a b c = (c / 4096 % 2) * 2147483648 + (c / 32 % 64) * 33554432 + b * 1048576 + a * 32768 + (c / 2 % 16) * 256 + (c / 2048 % 2) * 128 + la o + pa o * 4096 := by
      unfold wordM
      rw [e, if_neg (by intro z; cases z), f0]
      exact wB_eq ha hb rl rp
    rw [ew]
    have hs := sgn13r hc he
    have r1 : 0 ≤ c / 4096 % 2 ∧ c / 4096 % 2 < 2 := by omega
    have r2 : 0 ≤ c / 32 % 64 ∧ c / 32 % 64 < 64 := by omega
    have r3 : 0 ≤ c / 2 % 16 ∧ c / 2 % 16 < 16 := by omega
    have r4 : 0 ≤ c / 2048 % 2 ∧ c / 2048 % 2 < 2 := by omega
    generalize c / 4096 % 2 = q1 at *
    generalize c / 32 % 64 = q2 at *
    generalize c / 2 % 16 = q3 at *
    generalize c / 2048 % 2 = q4 at *
    generalize hw : q1 * 2147483648 + q2 * 33554432 + b * 1048576 + a * 32768 + q3 * 256 + q4 * 128 + la o + pa o * 4096 = w
    have g : w % 128 = la o ∧ w / 4096 % 8 = pa o ∧ w / 32768 % 32 = a ∧ w / 1048576 % 32 = b ∧ w / 2147483648 = q1 ∧ w / 128 % 2 = q4 ∧ w / 33554432 % 64 = q2 ∧ w / 256 % 16 = q3 := by
      refine ⟨by omega, by omega, by omega, by omega, by omega, by omega, by omega, by omega⟩
    refine ⟨by omega, g.1, ?_, ?_⟩
    · unfold fnd
      rw [e]
      dsimp only
      rw [m3, p12, g.2.1, decide_eq_true rfl]
    · rw [e]
      show (bitAnd (w / 2 ^ 15) 31, bitAnd (w / 2 ^ 20) 31, sgn (rB w) 4096) = _
      rw [m5, m5, p15, p20, g.2.2.1, g.2.2.2.1, rB_eq r1 r2 r3 r4 g.2.2.2.2.1 g.2.2.2.2.2.1 g.2.2.2.2.2.2.1 g.2.2.2.2.2.2.2, hs]
  | upper =>
    rw [e] at h
    obtain ⟨ha, hb, rfl⟩ := h
    have f0 := R.f0 (by rw [e]; exact fun z => by cases z) (by rw [e]; exact fun z => by cases z)
    have rp := R.p0 (.inl e)
    have ew : wordM o a b 0 = b * 4096 + a * 128 + la o := by
      unfold wordM
      rw [e, if_neg (by intro z; cases z), f0, rp]
      exact fin_upper ha hb rl
    rw [ew]
    refine ⟨by omega, by omega, by unfold fnd; rw [e], ?_⟩
    rw [e]
    show (bitAnd ((b * 4096 + a * 128 + la o) / 2 ^ 7) 31, (b * 4096 + a * 128 + la o) / 2 ^ 12, (0 : Int)) = _
    rw [m5, p7, p12, show (b * 4096 + a * 128 + la o) / 128 % 32 = a by omega, show (b * 4096 + a * 128 + la o) / 4096 = b by omega]
  | jump =>
    rw [e] at h
    obtain ⟨ha, ⟨hb, he⟩, rfl⟩ := h
    have f0 := R.f0 (by rw [e]; exact fun z => by cases z) (by rw [e]; exact fun z => by cases z)
    have rp := R.p0 (.inr e)
    have ew : wordM o a b 0 = (b / 1048576 % 2) * 2147483648 + (b / 2 % 1024) * 2097152 + (b / 2048 % 2) * 1048576 + (b / 4096 % 256) * 4096 + a * 128 + la o := by
      unfold wordM
      rw [e, if_neg (by intro z; cases z), f0, rp]
      exact wJ_eq ha rl
    rw [ew]
    have hs := sgn21r hb he
    have r1 : 0 ≤ b / 1048576 % 2 ∧ b / 1048576 % 2 < 2 := by omega
    have r2 : 0 ≤ b / 2 % 1024 ∧ b / 2 % 1024 < 1024 := by omega
    have r3 : 0 ≤ b / 2048 % 2 ∧ b / 2048 % 2 < 2 := by omega
    have r4 : 0 ≤ b / 4096 % 256 ∧ b / 4096 % 256 < 256 := by omega
    generalize b / 1048576 % 2 = q1 at *
    generalize b / 2 % 1024 = q2 at *
    generalize b / 2048 % 2 = q3 at *
    generalize b / 4096 % 256 = q4 at *
    generalize hw : q1 * 2147483648 + q2 * 2097152 + q3 * 1048576 + q4 * 4096 + a * 128 + la o = w
    have g : w % 128 = la o ∧ w / 128 % 32 = a ∧ w / 2147483648 = q1 ∧ w / 4096 % 256 = q4 ∧ w / 1048576 % 2 = q3 ∧ w / 2097152 % 1024 = q2 := by
      refine ⟨by omega, by omega, by omega, by omega, by omega, by omega⟩
    refine ⟨by omega, g.1, by unfold fnd; rw [e], ?_⟩
    rw [e]
    show (bitAnd (w / 2 ^ 7) 31, sgn (rJ w) 1048576, (0 : Int)) = _
    rw [m5, p7, g.2.1, rJ_eq r1 r2 r3 r4 g.2.2.1 g.2.2.2.1 g.2.2.2.2.1 g.2.2.2.2.2, hs]
  | whole =>
    rw [e] at h
    obtain ⟨rfl, rfl, rfl⟩ := h
    have rw_ := R.w e
    have ew : wordM o 0 0 0 = pa o := by unfold wordM; rw [if_pos e]
    rw [ew]
    refine ⟨⟨rw_.1, rw_.2.1⟩, rw_.2.2, ?_, by rw [e]; rfl⟩
    unfold fnd
    rw [e]
    exact decide_eq_true rfl
set_option synthInstance.maxHeartbeats 4000000 in
set_option synthInstance.maxSize 100000 in
theorem apart1 : ∀ o, o < 48 → ∀ q, q < 48 → la o = la q → fo o = .whole → fo q = .whole ∧ (¬ pa o = pa q ∨ o = q) := by decide +kernel
set_option synthInstance.maxHeartbeats 4000000 in
set_option synthInstance.maxSize 100000 in
theorem apart2 : ∀ o, o < 48 → ∀ q, q < 48 → la o = la q → (fo o = .upper ∨ fo o = .jump) → o = q := by decide +kernel
set_option synthInstance.maxHeartbeats 4000000 in
set_option synthInstance.maxSize 100000 in
theorem apart3 : ∀ o, o < 48 → ∀ q, q < 48 → la o = la q → (fo o = .three ∨ fo o = .shift) → ((fo q = .three ∨ fo q = .shift) ∧ (¬ pa o = pa q ∨ ¬ fi o = fi q ∨ o = q)) ∨ (fo q = .number ∧ ¬ pa o = pa q) := by decide +kernel
set_option synthInstance.maxHeartbeats 4000000 in
set_option synthInstance.maxSize 100000 in
theorem apart4 : ∀ o, o < 48 → ∀ q, q < 48 → la o = la q → (fo o = .number ∨ fo o = .store ∨ fo o = .branch) → (¬ pa o = pa q ∨ o = q) ∧ ¬ fo q = .whole ∧ ¬ fo q = .upper ∧ ¬ fo q = .jump := by decide +kernel
theorem only {w : Int} {o q : Nat} (ho : o < 48) (hq : q < 48) (el : la o = la q) (h1 : fnd o w = true) (h2 : fnd q w = true) : o = q := by
  have k1 := apart1 o ho q hq el
  have k2 := apart2 o ho q hq el
  have k3 := apart3 o ho q hq el
  have k4 := apart4 o ho q hq el
  unfold fnd at h1 h2
  cases e : fo o with
  | whole =>
    obtain ⟨f, g⟩ := k1 e
    rw [e] at h1
    rw [f] at h2
    rcases g with g | g
    · exact absurd ((of_decide_eq_true h1).symm.trans (of_decide_eq_true h2)) g
    · exact g
  | upper => exact k2 (.inl e)
  | jump => exact k2 (.inr e)
  | three =>
    rw [e] at h1
    obtain ⟨a1, a2⟩ := Bool.and_eq_true_iff.mp h1
    have a1 := of_decide_eq_true a1
    have a2 := of_decide_eq_true a2
    rcases k3 (.inl e) with ⟨f, g⟩ | ⟨f, g⟩
    · rcases f with f | f <;> rw [f] at h2 <;> obtain ⟨b1, b2⟩ := Bool.and_eq_true_iff.mp h2 <;> exact (g.resolve_left (fun z => z (a1.symm.trans (of_decide_eq_true b1)))).resolve_left (fun z => z (a2.symm.trans (of_decide_eq_true b2)))
    · rw [f] at h2
      exact absurd (a1.symm.trans (of_decide_eq_true h2)) g
  | shift =>
    rw [e] at h1
    obtain ⟨a1, a2⟩ := Bool.and_eq_true_iff.mp h1
    have a1 := of_decide_eq_true a1
    have a2 := of_decide_eq_true a2
    rcases k3 (.inr e) with ⟨f, g⟩ | ⟨f, g⟩
    · rcases f with f | f <;> rw [f] at h2 <;> obtain ⟨b1, b2⟩ := Bool.and_eq_true_iff.mp h2 <;> exact (g.resolve_left (fun z => z (a1.symm.trans (of_decide_eq_true b1)))).resolve_left (fun z => z (a2.symm.trans (of_decide_eq_true b2)))
    · rw [f] at h2
      exact absurd (a1.symm.trans (of_decide_eq_true h2)) g
  | number =>
    rw [e] at h1
    have a1 := of_decide_eq_true h1
    obtain ⟨g, n1, n2, n3⟩ := k4 (.inl e)
    have b1 : bitAnd (w / 2 ^ 12) 7 = pa q := by
      cases f : fo q <;> rw [f] at h2 n1 n2 n3
      case whole => exact absurd rfl n1
      case upper => exact absurd rfl n2
      case jump => exact absurd rfl n3
      case three => exact of_decide_eq_true (Bool.and_eq_true_iff.mp h2).1
      case shift => exact of_decide_eq_true (Bool.and_eq_true_iff.mp h2).1
      all_goals exact of_decide_eq_true h2
    exact g.resolve_left (fun z => z (a1.symm.trans b1))
  | store =>
    rw [e] at h1
    have a1 := of_decide_eq_true h1
    obtain ⟨g, n1, n2, n3⟩ := k4 (.inr (.inl e))
    have b1 : bitAnd (w / 2 ^ 12) 7 = pa q := by
      cases f : fo q <;> rw [f] at h2 n1 n2 n3
      case whole => exact absurd rfl n1
      case upper => exact absurd rfl n2
      case jump => exact absurd rfl n3
      case three => exact of_decide_eq_true (Bool.and_eq_true_iff.mp h2).1
      case shift => exact of_decide_eq_true (Bool.and_eq_true_iff.mp h2).1
      all_goals exact of_decide_eq_true h2
    exact g.resolve_left (fun z => z (a1.symm.trans b1))
  | branch =>
    rw [e] at h1
    have a1 := of_decide_eq_true h1
    obtain ⟨g, n1, n2, n3⟩ := k4 (.inr (.inr e))
    have b1 : bitAnd (w / 2 ^ 12) 7 = pa q := by
      cases f : fo q <;> rw [f] at h2 n1 n2 n3
      case whole => exact absurd rfl n1
      case upper => exact absurd rfl n2
      case jump => exact absurd rfl n3
      case three => exact of_decide_eq_true (Bool.and_eq_true_iff.mp h2).1
      case shift => exact of_decide_eq_true (Bool.and_eq_true_iff.mp h2).1
      all_goals exact of_decide_eq_true h2
    exact g.resolve_left (fun z => z (a1.symm.trans b1))
theorem dec_word {o : Nat} (ho : o < 48) {a b c : Int} (h : okI (fo o) a b c) : decM (wordM o a b c) = some o := by
  have B := written ho h
  unfold decM
  rw [m7, B.last]
  cases e : (byl (la o)).find? fun q => fnd q (wordM o a b c) with
  | none =>
    have := List.find?_eq_none.mp e o (List.mem_filter.mpr ⟨List.mem_range.mpr ho, decide_eq_true rfl⟩)
    exact absurd B.found this
  | some q =>
    obtain ⟨hq, el⟩ := byl_mem (List.mem_of_find?_eq_some e)
    rw [only ho hq el.symm B.found (by simpa using List.find?_some e)]
/-! ### bits -/
def bitsL (n : Int) (m : Nat) : List Int := (List.range m).map fun i => n / 2 ^ i % 2
def sumB : List Int → Int
  | [] => 0
  | b :: r => b + 2 * sumB r
theorem bits_len (n : Int) (m : Nat) : (bitsL n m).length = m := by unfold bitsL; rw [List.length_map, List.length_range]
theorem bits_01 (n : Int) (m : Nat) : ∀ b ∈ bitsL n m, 0 ≤ b ∧ b ≤ 1 := by
  intro b hb
  obtain ⟨i, _, rfl⟩ := List.mem_map.mp hb
  omega
theorem bits_succ (n : Int) (m : Nat) : bitsL n (m + 1) = n % 2 :: bitsL (n / 2) m := by
  unfold bitsL
  rw [List.range_succ_eq_map, List.map_cons, List.map_map]
  have e0 : n / 2 ^ 0 % 2 = n % 2 := by rw [show (2 : Int) ^ 0 = 1 from by decide, Int.ediv_one]
  rw [e0]
  congr 1
  refine List.map_congr_left fun i _ => ?_
  show n / 2 ^ (i + 1) % 2 = n / 2 / 2 ^ i % 2
  rw [Int.pow_succ, Int.mul_comm, Int.ediv_ediv_of_nonneg (by decide)]
theorem sum_bits : ∀ (m : Nat) (n : Int) (r : List Int), sumB (bitsL n m ++ r) = n % 2 ^ m + 2 ^ m * sumB r
  | 0, n, r => by
    rw [show (2 : Int) ^ 0 = 1 from by decide, Int.emod_one, Int.one_mul, Int.zero_add]; rfl
  | m + 1, n, r => by
    rw [bits_succ, List.cons_append]
    show n % 2 + 2 * sumB (bitsL (n / 2) m ++ r) = _
    rw [sum_bits m (n / 2) r, Int.pow_succ]
    have hp : (0 : Int) < 2 ^ m := Int.pow_pos (by decide)
    generalize (2 : Int) ^ m = k at *
    have e1 : n % (k * 2) = n % 2 + 2 * (n / 2 % k) := by
      have h1 := Int.mul_ediv_add_emod (n / 2) k
      have r0 := Int.emod_nonneg (n / 2) (show k ≠ 0 by omega)
      have r1 := Int.emod_lt_of_pos (n / 2) hp
      have e2 : n = (n % 2 + 2 * (n / 2 % k)) + (k * 2) * (n / 2 / k) := by
        have e3 : (k * 2) * (n / 2 / k) = 2 * (k * (n / 2 / k)) := by rw [Int.mul_comm k 2, Int.mul_assoc]
        rw [e3]; omega
      have e4 : n % (k * 2) = ((n % 2 + 2 * (n / 2 % k)) + (k * 2) * (n / 2 / k)) % (k * 2) := congrArg (· % (k * 2)) e2
      rw [e4, Int.add_mul_emod_self_left, Int.emod_eq_of_lt (by omega) (by omega)]
    rw [e1, Int.mul_add, Int.mul_comm k 2, Int.mul_assoc, Int.add_assoc]
/-- a part of these bits -/
theorem bits_part (n : Int) {k i j : Nat} (h : i + j ≤ k) : ((bitsL n k).drop i).take j = bitsL (n / 2 ^ i) j := by
  apply List.ext_getElem?
  intro m
  rw [List.getElem?_take]
  by_cases c : m < j
  · rw [if_pos c, List.getElem?_drop]
    unfold bitsL
    rw [List.getElem?_map, List.getElem?_map, List.getElem?_range (by omega), List.getElem?_range c]
    show some (n / 2 ^ (i + m) % 2) = some (n / 2 ^ i / 2 ^ m % 2)
    rw [Int.pow_add, Int.ediv_ediv_of_nonneg (Int.le_of_lt (Int.pow_pos (by decide)))]
  · rw [if_neg c, List.getElem?_eq_none (by rw [bits_len]; omega)]
theorem bits_one (n : Int) : bitsL n 1 = [n % 2] := by
  unfold bitsL
  show [n / 2 ^ 0 % 2] = _
  rw [show (2 : Int) ^ 0 = 1 from by decide, Int.ediv_one]
theorem sum_nil : sumB [] = 0 := rfl
theorem sum_last (n : Int) (m : Nat) : sumB (bitsL n m) = n % 2 ^ m := by
  have := sum_bits m n []
  rw [List.append_nil, sum_nil, Int.mul_zero, Int.add_zero] at this
  exact this
/-! ### the words of the law -/
theorem b_three {o : Nat} (ho : o < 48) {a b c : Int} (e : fo o = .three ∨ fo o = .shift) (h : okI (fo o) a b c) : sumB (bitsL (la o) 7 ++ bitsL a 5 ++ bitsL (pa o) 3 ++ bitsL b 5 ++ bitsL c 5 ++ bitsL (fi o) 7) = wordM o a b c := by
  have R := row ho
  have rl := R.l
  have rf := R.f
  have rp := R.p (by rcases e with e | e <;> rw [e] <;> exact fun z => by cases z)
  have hh : (0 ≤ a ∧ a < 32) ∧ (0 ≤ b ∧ b < 32) ∧ (0 ≤ c ∧ c < 32) := by rcases e with e | e <;> rw [e] at h <;> exact h
  obtain ⟨ha, hb, hc⟩ := hh
  have ew : wordM o a b c = fi o * 33554432 + c * 1048576 + b * 32768 + pa o * 4096 + a * 128 + la o := by
    unfold wordM
    rcases e with e | e <;> rw [e, if_neg (by intro z; cases z)] <;> exact three_back rl rp rf ha hb hc
  rw [ew]
  simp only [List.append_assoc]
  rw [sum_bits, sum_bits, sum_bits, sum_bits, sum_bits, sum_last, p7, p5, p3]
  omega
theorem b_number {o : Nat} (ho : o < 48) {a b c : Int} (e : fo o = .number) (h : okI (fo o) a b c) : sumB (bitsL (la o) 7 ++ bitsL a 5 ++ bitsL (pa o) 3 ++ bitsL b 5 ++ bitsL c 12) = wordM o a b c := by
  have R := row ho
  have rl := R.l
  have rp := R.p (by rw [e]; exact fun z => by cases z)
  have f0 := R.f0 (by rw [e]; exact fun z => by cases z) (by rw [e]; exact fun z => by cases z)
  rw [e] at h
  obtain ⟨ha, hb, hc⟩ := h
  have ew : wordM o a b c = c % 4096 * 1048576 + b * 32768 + pa o * 4096 + a * 128 + la o := by
    unfold wordM
    rw [e, if_neg (by intro z; cases z), f0]
    exact number_back rl rp ha hb c
  rw [ew]
  simp only [List.append_assoc]
  rw [sum_bits, sum_bits, sum_bits, sum_bits, sum_last, p7, p5, p3, p12]
  generalize c % 4096 = q
  omega
theorem b_store {o : Nat} (ho : o < 48) {a b c : Int} (e : fo o = .store) (h : okI (fo o) a b c) : sumB (bitsL (la o) 7 ++ bitsL c 5 ++ bitsL (pa o) 3 ++ bitsL a 5 ++ bitsL b 5 ++ bitsL (c / 2 ^ 5) 7) = wordM o a b c := by
  have R := row ho
  have rl := R.l
  have rp := R.p (by rw [e]; exact fun z => by cases z)
  have f0 := R.f0 (by rw [e]; exact fun z => by cases z) (by rw [e]; exact fun z => by cases z)
  rw [e] at h
  obtain ⟨ha, hb, hc⟩ := h
  have ew : wordM o a b c = c / 32 % 128 * 33554432 + b * 1048576 + a * 32768 + pa o * 4096 + c % 32 * 128 + la o := by
    unfold wordM
    rw [e, if_neg (by intro z; cases z), f0]
    exact store_back rl rp ha hb c
  rw [ew]
  simp only [List.append_assoc]
  rw [sum_bits, sum_bits, sum_bits, sum_bits, sum_bits, sum_last, p7, p5, p3]
  generalize c / 32 % 128 = q
  generalize c % 32 = q2
  omega
theorem b_branch {o : Nat} (ho : o < 48) {a b c : Int} (e : fo o = .branch) (h : okI (fo o) a b c) :
    sumB (bitsL (la o) 7 ++ bitsL (c / 2 ^ 11) 1 ++ bitsL (c / 2 ^ 1) 4 ++ bitsL (pa o) 3 ++ bitsL a 5 ++ bitsL b 5 ++ bitsL (c / 2 ^ 5) 6 ++ bitsL (c / 2 ^ 12) 1) = wordM o a b c := by
  have R := row ho
  have rl := R.l
  have rp := R.p (by rw [e]; exact fun z => by cases z)
  have f0 := R.f0 (by rw [e]; exact fun z => by cases z) (by rw [e]; exact fun z => by cases z)
  rw [e] at h
  obtain ⟨ha, hb, hc, he⟩ := h
  have ew : wordM o a b c = (c / 4096 % 2) * 2147483648 + (c / 32 % 64) * 33554432 + b * 1048576 + a * 32768 + (c / 2 % 16) * 256 + (c / 2048 % 2) * 128 + la o + pa o * 4096 := by
    unfold wordM
    rw [e, if_neg (by intro z; cases z), f0]
    exact wB_eq ha hb rl rp
  rw [ew]
  simp only [List.append_assoc]
  rw [sum_bits, sum_bits, sum_bits, sum_bits, sum_bits, sum_bits, sum_bits, sum_last, p12, p11, p7, p6, p5, p4, p3, p1]
  generalize c / 4096 % 2 = q1
  generalize c / 32 % 64 = q2
  generalize c / 2 % 16 = q3
  generalize c / 2048 % 2 = q4
  omega
theorem b_upper {o : Nat} (ho : o < 48) {a b : Int} (e : fo o = .upper) (h : okI (fo o) a b 0) : sumB (bitsL (la o) 7 ++ bitsL a 5 ++ bitsL b 20) = wordM o a b 0 := by
  have R := row ho
  have rl := R.l
  have f0 := R.f0 (by rw [e]; exact fun z => by cases z) (by rw [e]; exact fun z => by cases z)
  have rp := R.p0 (.inl e)
  rw [e] at h
  obtain ⟨ha, hb, _⟩ := h
  have ew : wordM o a b 0 = b * 4096 + a * 128 + la o := by
    unfold wordM
    rw [e, if_neg (by intro z; cases z), f0, rp]
    exact fin_upper ha hb rl
  rw [ew]
  simp only [List.append_assoc]
  rw [sum_bits, sum_bits, sum_last, p20, p7, p5]
  omega
theorem b_jump {o : Nat} (ho : o < 48) {a b : Int} (e : fo o = .jump) (h : okI (fo o) a b 0) :
    sumB (bitsL (la o) 7 ++ bitsL a 5 ++ bitsL (b / 2 ^ 12) 8 ++ bitsL (b / 2 ^ 11) 1 ++ bitsL (b / 2 ^ 1) 10 ++ bitsL (b / 2 ^ 20) 1) = wordM o a b 0 := by
  have R := row ho
  have rl := R.l
  have f0 := R.f0 (by rw [e]; exact fun z => by cases z) (by rw [e]; exact fun z => by cases z)
  have rp := R.p0 (.inr e)
  rw [e] at h
  obtain ⟨ha, ⟨hb, he⟩, _⟩ := h
  have ew : wordM o a b 0 = (b / 1048576 % 2) * 2147483648 + (b / 2 % 1024) * 2097152 + (b / 2048 % 2) * 1048576 + (b / 4096 % 256) * 4096 + a * 128 + la o := by
    unfold wordM
    rw [e, if_neg (by intro z; cases z), f0, rp]
    exact wJ_eq ha rl
  rw [ew]
  simp only [List.append_assoc]
  rw [sum_bits, sum_bits, sum_bits, sum_bits, sum_bits, sum_last, p20, p12, p11, p10, p8, p7, p5, p1]
  generalize b / 1048576 % 2 = q1
  generalize b / 2 % 1024 = q2
  generalize b / 2048 % 2 = q3
  generalize b / 4096 % 256 = q4
  omega
end I6

namespace Mh
open PySem PySem.Spec PyProof.Rows L2 My Ru ClX
/-! a method of a class, read through the class that heirs it -/
section
variable {P : Program} {w : World} {K : PySem.W.Frag} {mg : Str → Option Value} {base : Heap} {CX : CXT} {k : Nat} {C D : Addr} {m : Str} {ps : List Str} {sp : Sp}
theorem Gm.heir (h : Gm P w K mg base CX k C m ps sp) (e : PySem.W.findIn K (.ref D) m = PySem.W.findIn K (.ref C) m) : Gm P w K mg base CX k D m ps sp := by
  obtain ⟨f, fd, a, b, c⟩ := h.ex
  exact ⟨f, fd, ⟨by rw [e]; exact a.at_, a.fn, a.kp⟩, b, c⟩
end
/-- the class at C gives its def m as it stands -/
structure Cf (K : PySem.W.Frag) (C : Addr) (m : Str) : Prop where
  ex : ∃ (mc : Value) (f : Addr), CRead K C mc ∧ PySem.W.findIn K (.ref C) m = some (some (.ref f)) ∧ PySem.W.findCls K (.ref C) mc m = some (.val (.ref f))
section
variable {X : Cx} {CX : CXT} {k : Nat} {x m : Str} {ps : List Str} {sp : Sp} {E : XK} {e o : Expr} {es : List Expr} {t : TA} {ta tb : TE} {p pos apos : Pos} {C : Addr}
theorem pe_or (ha : PE X e ta) (hb : PE X e tb) : PE X e (fun σ H Q => ta σ H Q ∨ tb σ H Q) :=
  ⟨fun pins s σ H Q I h => h.elim (ha.run pins s σ H Q I) (hb.run pins s σ H Q I)⟩
def tCFun (C : Addr) (sp : Sp) (E : XK) (ta : TE) (t : TA) : TE := fun σ H Q => ta σ H fun x H1 => x = .ref C ∧ t σ H1 fun vs H2 => sp vs H2 Q E
/-- C.m(..), m a def of C -/
theorem pe_cfun {pl : Sem Bool} (he : PE X o ta) (c : Cf X.K C m) (G : Gm X.prog X.w X.K X.mg X.base CX k C m ps sp) (hr : Room k X.A) (hx : Passes CX X E) (ha : PA X (e :: es) t)
    (hst : starEach (e :: es) X.env = (false, eval e X.env) :: starEach es X.env := by rfl) (hpl : (backTo pos (starEach es X.env)).any (·.1) = false := by rfl)
    (ht : eval (.Call (.Attribute o m apos) (e :: es) [] pos) X.env = (do
      let ov ← eval o X.env
      standAt apos.atName
      let (f, first) ← holding [ov] (getMethod ov m pl)
      callWith pos f first (backTo pos (starEach (e :: es) X.env)) (backToKw pos (keywordEach [] X.env))) := by rfl) :
    PE X (.Call (.Attribute o m apos) (e :: es) [] pos) (tCFun C sp E ta t) := by
  obtain ⟨f, fd, hm, F, hb⟩ := G.ex
  obtain ⟨mc, g, r, h1, h2⟩ := c.ex
  obtain rfl : g = f := by
    have z := hm.at_
    rw [h1] at z
    cases z
    rfl
  refine ⟨fun pins s σ H Q I h => ?_⟩
  refine PySem.W.methodCall_KW (pl := pl) (thn (he.run pins s σ H _ I h) fun u s1 ⟨x, H1, I1, rx, ex, q⟩ => ?_) ht
  subst ex
  obtain rfl : u = Value.ref C := rx
  refine PySem.W.method_cls I1.kIn r.ga (getcval_ok (v := .ref g) I1 r ⟨h2, rfl⟩ fun s2 I2 => ?_)
  refine PySem.W.callWith_K (h₀ := X.base) (first := []) I2.ok.mod.kin hm.kp (thn (ha.run pos pins s2 σ H1 _ I2 q) fun us s3 ⟨vs, H2, I3, rv, q3⟩ => ⟨I3.kIn, ?_⟩) hst hpl
  exact run_fn (dvs := []) F hr hb .nil hx I3 rv (by rw [List.append_nil]; exact q3)
end
/-! dict() of a tuple of pairs whose object is known -/
section
variable {X : Cx} {es : List Expr} {t : TA} {pos : Pos}
def tTupF (t : TA) : TE := fun σ H Q => t σ H fun xs H1 => xs.length ≤ sizeLine ∧ ∀ a o, H1 a = none → o.dict = none → Q (.ref a) (upd H1 a (.frz o (.tup xs)))
theorem pe_tupF {x1} (h : PA X es t) : PE X (.Tuple es x1 pos) (tTupF t) := by
  refine ⟨fun pins s σ H Q I hq => wpAny_Tuple_spliced (thn (h.run pos pins s σ H _ I hq) fun us s1 ⟨xs, H1, I1, r, z, q⟩ => ⟨r.length ▸ z, ?_⟩)⟩
  have g : (s1.heap.push { cls := .type "tuple", data := .seq us.toArray 0 }).get? s1.heap.objs.size = some { cls := .type "tuple", data := .seq us.toArray 0 } := Heap.get?_push_size _ rfl
  refine ⟨.ref s1.heap.objs.size, _, I1.laid (t' := s1.toks) (fun b u e => Heap.get?_push_of_some _ e) (Nat.le_refl _) (o := .frz { cls := .type "tuple", data := .seq us.toArray 0 } (.tup xs)) ⟨g, z, us, r, _, g, rfl, _, rfl⟩, rfl, q _ _ (I1.hok.fresh (Nat.le_refl _)) rfl⟩
theorem pairs_are {pins : List (Addr × Obj)} {σ : L2.St} {H : Hp} {s : Shared} (I : Inv X pins σ H s) : ∀ {ps : List Addr} {kvs : List (Key × V)}, Paired (fun p kv => SqT X.K H p [kV kv.1, kv.2]) ps kvs →
    ∃ (prs : List (Key × Value)) (pvs : List (Value × Value)), KV kvs prs ∧ prs.length = ps.length ∧ pvs.length = ps.length ∧
      ∀ (j : Nat) (k v : Value), pvs[j]? = some (k, v) → ∃ (b : Addr) (q : Key), ps[j]? = some b ∧ prs[j]? = some (q, v) ∧ IsTup s.heap b #[k, v] ∧ keyIs q k = true
  | _, _, .nil => ⟨[], [], .nil, rfl, rfl, fun j k v e => by simp at e⟩
  | _, _, .cons (a := p) (b := kv) h t => by
    obtain ⟨prs, pvs, r, l1, l2, hp⟩ := pairs_are I t
    obtain ⟨its, rv, ht, _⟩ := I.tuple h
    obtain ⟨u, y, ei, ru, ry⟩ := vals2 rv
    subst ei
    refine ⟨(kv.1, y) :: prs, (u, y) :: pvs, .cons ⟨rfl, ry⟩ r, by simp [l1], by simp [l2], fun j k v e => ?_⟩
    rcases j with _ | j
    · have e' : (u, y) = (k, v) := by simpa using e
      cases e'
      exact ⟨p, kv.1, rfl, rfl, ht, kV_is (P := X.prog) (w := X.w) ru⟩
    · obtain ⟨b, q, a1, a2, a3, a4⟩ := hp j k v (by simpa using e)
      exact ⟨b, q, by simpa using a1, by simpa using a2, a3, a4⟩
def rDictTup (K : PySem.W.Frag) : List V → Hp → VK → Prop := fun xs H Q => ∃ (a : Addr) (o : Obj) (ps : List Addr) (kvs : List (Key × V)), xs = [.ref a] ∧ H a = some (.frz o (.tup (ps.map V.ref))) ∧ o.dict = none ∧ Paired (fun p kv => SqT K H p [kV kv.1, kv.2]) ps kvs ∧
    ∀ p, H p = none → Q (.ref p) (upd H p (.dK (mergeK [] kvs)))
theorem call_dictTup (hcalm : X.calm = true) : CallR X (.type "dict") (rDictTup X.K) := by
  rintro pins s σ H xs us Q I r ⟨a, o, ps, kvs, rfl, hq, hd, hp, q⟩
  obtain ⟨u, rfl, rx⟩ := vals1 r
  cases rx
  obtain ⟨g, z, its, rv, o', g', hc, n, hdat⟩ := I.hok a _ hq
  obtain rfl : o = o' := by rw [g] at g'; exact Option.some.inj g'
  obtain rfl := refs_at rv
  obtain ⟨prs, pvs, rel, l1, l2, hpr⟩ := pairs_are I hp
  rw [List.length_map] at z
  refine PySem.call_dict_pairs (knd := mixKind X.prog X.w) (kvs := prs) (PairArg.tuple (prog := X.prog) (w := X.w) a (ps.map Value.ref).toArray (fun j => ps.getD j 0) pvs) (I.ok.hd hcalm) ⟨⟨o, n, g, hc, hd, hdat⟩, by simp [l2], fun j k v e => ?_⟩ ⟨by rw [l1, l2], fun i key v e => ?_⟩ (by rw [l2]; exact z) fun h' tk hd' k => ?_
  · obtain ⟨b, qk, a1, a2, ⟨ot, ho, hc', m, hs⟩, a4⟩ := hpr j k v e
    have e1 : ps.getD j 0 = b := by rw [List.getD_eq_getElem?_getD, a1]; rfl
    refine ⟨by simp [a1, e1], ?_⟩
    show PairAt s.heap (ps.getD j 0) k v
    rw [e1]
    exact .inl ⟨ot, ho, hc', m, hs⟩
  · obtain ⟨b, qk, a1, a2, a3, a4⟩ := hpr i key v e
    exact ⟨qk, a2, a4⟩
  · have hm : (s.heap.objs.size == sysModules) = false := beq_eq_false_iff_ne.mpr (Nat.ne_of_gt I.big)
    have hlen : (mergeK [] kvs).length ≤ sizeLine := by
      have z1 := length_mergeK kvs []
      have z2 : kvs.length = ps.length := by rw [← l1]; exact rel.length
      rw [List.length_nil] at z1
      omega
    exact ⟨.ref s.heap.objs.size, _, I.laid (t' := tk) (fun b u e => k b u (fun h => nomatch h) e) (Nat.le_refl _) (o := .dK (mergeK [] kvs)) ⟨hlen, hm, merged [] prs, KV.merge rel .nil, hd'⟩, rfl, q _ (I.hok.fresh (Nat.le_refl _))⟩
end
/-! a method of one of two classes -/
section
variable {X : Cx} {CX : CXT} {k i : Nat} {m y : Str} {ps : List Str} {sp : Sp} {E : XK} {e : Expr} {es : List Expr} {t : TA} {p pos apos : Pos} {C D : Addr}
def tMeth2 (C D : Addr) (i : Nat) (m : Str) (sp : Sp) (E : XK) (t : TA) : TE := fun σ H Q => ∃ a B dx fs, σ[i]? = some (some (.ref a)) ∧ H a = some (.ins B dx fs) ∧ (B = C ∨ B = D) ∧ fs.lookup m = none ∧ t σ H fun vs H2 => sp (.ref a :: vs) H2 Q E
theorem pe_gm2 {pl : Sem Bool} (he : PE X (.Name y p) (tVar i)) (c : Cls X.K C) (d : Cls X.K D) (G : Gm X.prog X.w X.K X.mg X.base CX k C m ps sp) (G' : Gm X.prog X.w X.K X.mg X.base CX k D m ps sp) (hr : Room k X.A) (hx : Passes CX X E) (ha : PA X (e :: es) t)
    (hst : starEach (e :: es) X.env = (false, eval e X.env) :: starEach es X.env := by rfl) (hpl : (backTo pos (starEach es X.env)).any (·.1) = false := by rfl)
    (ht : eval (.Call (.Attribute (.Name y p) m apos) (e :: es) [] pos) X.env = (do
      let ov ← eval (.Name y p) X.env
      standAt apos.atName
      let (f, first) ← holding [ov] (getMethod ov m pl)
      callWith pos f first (backTo pos (starEach (e :: es) X.env)) (backToKw pos (keywordEach [] X.env))) := by rfl) :
    PE X (.Call (.Attribute (.Name y p) m apos) (e :: es) [] pos) (tMeth2 C D i m sp E t) := by
  refine ⟨fun pins s σ H Q I hw => ?_⟩
  obtain ⟨a, B, dx, fs, h1, h2, h3, h4, h5⟩ := hw
  rcases h3 with rfl | rfl
  · exact (pe_gm he c G hr hx ha hst hpl ht).run pins s σ H Q I ⟨_, h1, a, dx, fs, rfl, h2, h4, h5⟩
  · exact (pe_gm he d G' hr hx ha hst hpl ht).run pins s σ H Q I ⟨_, h1, a, dx, fs, rfl, h2, h4, h5⟩
theorem pe_gm20 {pl : Sem Bool} (he : PE X (.Name y p) (tVar i)) (c : Cls X.K C) (d : Cls X.K D) (G : Gm X.prog X.w X.K X.mg X.base CX k C m ps sp) (G' : Gm X.prog X.w X.K X.mg X.base CX k D m ps sp) (hr : Room k X.A) (hx : Passes CX X E)
    (ht : eval (.Call (.Attribute (.Name y p) m apos) [] [] pos) X.env = (do
      let ov ← eval (.Name y p) X.env
      standAt apos.atName
      let (f, first) ← holding [ov] (getMethod ov m pl)
      callWith pos f first (backTo pos (starEach [] X.env)) (backToKw pos (keywordEach [] X.env))) := by rfl) :
    PE X (.Call (.Attribute (.Name y p) m apos) [] [] pos) (tMeth2 C D i m sp E tNil) := by
  refine ⟨fun pins s σ H Q I hw => ?_⟩
  obtain ⟨a, B, dx, fs, h1, h2, h3, h4, h5⟩ := hw
  rcases h3 with rfl | rfl
  · exact (pe_gm0 he c G hr hx ht).run pins s σ H Q I ⟨_, h1, a, dx, fs, rfl, h2, h4, h5⟩
  · exact (pe_gm0 he d G' hr hx ht).run pins s σ H Q I ⟨_, h1, a, dx, fs, rfl, h2, h4, h5⟩
end
end Mh

/-! a head's Hook that also knows the table of the interpreter's own statics: C.m through a class asks it -/
namespace Hy
open PySem PySem.Spec L2
/-- what an object names -/
def kids (g : Addr → Option Obj) (a : Addr) : List Addr := match g a with
  | some o => He.refsO o
  | none => []
def two (g : Addr → Option Obj) (a : Addr) : List Addr := let ks := kids g a; ks ++ ks.flatMap (kids g)
/-- what stands near a name's object: a def's code and tables, a class's names and their defs -/
def near (g : Addr → Option Obj) (a : Addr) : List Addr := match g a with
  | some ⟨_, _, .func fd, _⟩ => two g a
  | some ⟨_, _, .cls cd, _⟩ => let ms := kids g cd.ns; cd.ns :: (ms ++ ms.flatMap (two g))
  | some o => He.refsO o
  | none => []
def part (g : Addr → Option Obj) (_ : Nat) : PySem.W.Frag := He.frT g (let ks := kids g mainGlobals; mainGlobals :: cStatics :: (ks ++ ks.flatMap (near g)))
def look (n : Nat) (fa : List He.Fa) (fn : List He.DefD) (ts : List He.Tab) (ex : PySem.W.Frag → Bool) (g : Addr → Option Obj) : He.AlX :=
  (He.obsT fa fn ts (part g n), ex (part g n))
section
variable {n : Nat} {fa : List He.Fa} {fn : List He.DefD} {ts : List He.Tab} {ex : PySem.W.Frag → Bool}
theorem told {w : World} {h : Heap} (e : look n fa fn ts ex h.get? = He.valX fn ts w) : He.SaysX fa fn ts [] ex w h (part h.get? n) where
  t := congrArg Prod.fst e
  more := congrArg Prod.snd e
  hd := fun _ hp => nomatch hp
  out := fun _ hp => nomatch hp
  empty := fun _ hp => nomatch hp
end
def hook (n : Nat) (fa : List He.Fa) (fn : List He.DefD) (ts : List He.Tab) (ex : PySem.W.Frag → Bool) : PySem.W.Hook where
  α := He.AlX
  obs s := look n fa fn ts ex s.heap.get?
  val w := He.valX fn ts w
  says w h := ∃ F : PySem.W.Frag, F.In h ∧ He.SaysX fa fn ts [] ex w h F
  of _ s e := ⟨part s.heap.get? n, He.frT_in, told e⟩
  keeps _ _ _ p k := by
    obtain ⟨F, i, c⟩ := p
    exact ⟨F, PySem.W.Frag.In.keeps i k, { t := c.t, more := c.more, hd := c.hd, out := c.out, empty := fun _ hp => nomatch hp }⟩
theorem look_eq {n : Nat} {fa : List He.Fa} {fn : List He.DefD} {ts : List He.Tab} {ex : PySem.W.Frag → Bool} {g : Addr → Option Obj} {s : Shared} (h : ∀ a, g a = s.heap.get? a) : look n fa fn ts ex g = (hook n fa fn ts ex).obs s := by
  cases (show g = s.heap.get? from funext h)
  rfl
/-- what the top's run shows of itself -/
def Shows {α : Type} (r : PySem.W.OpenRow) (m : Nat) (w : World) (f : PySem.W.SharedT → α) (v : α) : Prop :=
  ∀ os : OsState, (HandSHeadRun.endF (HandSHeadRun.stepQ (HandSHeadRun.denQ HandSHeadRun.tabQ) r.prog w) m r.prog w os).map f = some v
theorem Shows.both {α β : Type} {r : PySem.W.OpenRow} {m : Nat} {w : World} {f : PySem.W.SharedT → α} {g : PySem.W.SharedT → β} {v : α} {u : β} (h1 : Shows r m w f v) (h2 : Shows r m w g u) : Shows r m w (fun s => (f s, g s)) (v, u) := fun os => by
  have a := h1 os
  have b := h2 os
  cases e : HandSHeadRun.endF (HandSHeadRun.stepQ (HandSHeadRun.denQ HandSHeadRun.tabQ) r.prog w) m r.prog w os with
  | none => rw [e] at a; cases a
  | some s =>
    rw [e] at a b
    have a : f s = v := Option.some.inj a
    have b : g s = u := Option.some.inj b
    show some (f s, g s) = some (v, u)
    rw [a, b]
end Hy

/-! a tuple taken once or more often -/
namespace Mt
open PySem PySem.Spec PyProof.Rows L2
theorem once (l : Addr) (items : Array Value) (n : Nat) (dd : Option Addr) (sl : Array (Option Value)) (u : Tok) :
    Meets (Builtin.«tuple.__mul__» ⟨[.ref l, .int 1 u], []⟩) (fun _ R s => s.heap.get? l = some { cls := .type "tuple", dict := dd, data := .seq items n, slots := sl } ∧ R (.ok (.ret (Value.ref l))) s) :=
  .of_wp fun prog w A R s h => by
    obtain ⟨hp, g, d, tk, os⟩ := s
    obtain ⟨hl, h⟩ := h
    have f1 := AutoSeq1.idx_int
    have c1 : (items.isEmpty || (1 : Int) == 1) = true := by rw [Bool.or_eq_true]; exact Or.inr rfl
    wp_walk using wpAny_loadPart' hl
    exact ⟨_, rfl, h⟩
/-- t * k: t itself, or a new tuple -/
def rTimes (K : PySem.W.Frag) : R2 := fun x y H Q => ∃ (l : Addr) (k : Int) (xs : List V), x = .ref l ∧ y = .int k ∧ SqT K H l xs ∧ ((k = 1 ∧ Q (.ref l) H) ∨
  (xs ≠ [] ∧ 2 ≤ k ∧ k ≤ 1000 ∧ xs.length ≤ 1000 ∧ ∀ p, H p = none → Q (.ref p) (upd H p (.tup (List.replicate k.toNat xs).flatten))))
section
variable {X : Cx}
theorem op_times : OpR X (binaryOp .Mult) (rTimes X.K) := by
  intro pins s σ H x y v u Q I rx ry h
  obtain ⟨l, k, xs, rfl, rfl, hT, ⟨rfl, q⟩ | ⟨hne, h1, h2, h3, q⟩⟩ := h
  · cases rx
    obtain ⟨t, rfl⟩ := ry
    obtain ⟨its, r, ⟨⟨cls, dd, data, sl⟩, ho, hc, n, hd⟩, hs⟩ := I.tuple hT
    simp only at hc hd
    subst hc hd
    refine wpAny_binaryOp_repeat_ref (T := "tuple") (U := "int") (by decide) ⟨_, ho, rfl⟩ (fun s' => typeIs_int s' 1 t) noFill_tuple_mul F.fills_int_mul F.slot_int_rmul repeat_tuple F.slot_int_index.lookup
      (call_meets F.slot_int_rmul (typeIs_int s 1 t) F.entry_int_rmul (F.args_int_rmul_2 _ _) (int_rmul_tuple 1 t l its.toArray n dd sl)
        ⟨ho, rfl, ⟨_, ho, rfl⟩, call_meets F.slot_tuple_mul ⟨_, ho, rfl⟩ F.entry_tuple_mul (F.args_tuple_mul_2 _ _) (once l its.toArray n dd sl t) ⟨ho, ?_⟩⟩)
    exact ⟨.ref l, H, I, rfl, q⟩
  · exact op_repT pins s σ H (.ref l) (.int k) v u Q I rx ry ⟨l, k, xs, rfl, rfl, hT, hne, h1, h2, h3, q⟩
def rTimesN (_ : PySem.W.Frag) : R2 := fun x y H Q => ∃ (l : Addr) (k : Nat) (v : V), x = .ref l ∧ y = .int k ∧ H l = some (.tup [v]) ∧ 1 ≤ k ∧ k ≤ 1000 ∧
  ∀ (G : Hp) (p : Addr), (∀ b o, H b = some o → G b = some o) → G p = some (.tup (List.replicate k v)) → Q (.ref p) G
theorem flat_one {α : Type} (v : α) : ∀ k : Nat, (List.replicate k [v]).flatten = List.replicate k v
  | 0 => rfl
  | k + 1 => by
    show [v] ++ (List.replicate k [v]).flatten = v :: List.replicate k v
    rw [flat_one v k]; rfl
theorem op_timesN : OpR X (binaryOp .Mult) (rTimesN X.K) := by
  intro pins s σ H x y v u Q I rx ry h
  obtain ⟨l, k, w, rfl, rfl, hT, h1, h2, q⟩ := h
  refine op_times pins s σ H (.ref l) (.int k) v u Q I rx ry ⟨l, k, [w], rfl, rfl, SqT.of hT, ?_⟩
  by_cases z : k = 1
  · subst z
    exact Or.inl ⟨rfl, q H l (fun _ _ e => e) hT⟩
  · refine Or.inr ⟨by simp, by omega, by omega, by show 1 ≤ 1000; decide, fun p hp => q _ p (fun b o e => ?_) ?_⟩
    · unfold upd
      rw [if_neg (fun e2 => by rw [e2, hp] at e; cases e)]
      exact e
    · rw [flat_one, Int.toNat_natCast]
      exact if_pos rfl
end
end Mt

/-! d[k] of a written dict whose keys are ints; d.get(k) and d.update(e) of dicts of the hand layer -/
namespace Ki
open PySem PySem.Spec PyProof.Rows L2 Kg
section
variable {X : Cx}
def rIxK (d : Addr) (es : Array DictEntry) : R2 := fun x y H Q => ∃ (k : Int) (u : Value) (v : V), x = .ref d ∧ y = .int k ∧ findBy Value.isInt es k = some u ∧ RelV v u ∧ Q v H
theorem ix_kint {d : Addr} {es : Array DictEntry} {n : Nat} (D : KInt X.K d es n) : IxR X (rIxK d es) := by
  intro value slice pins s σ H x y v u Q I rx ry h hs
  obtain ⟨k, w, z, rfl, rfl, e, ru, q⟩ := h
  obtain rfl : v = Value.ref d := rx
  obtain ⟨t, rfl⟩ := ry
  have hm := D.map (prog := X.prog) (w := X.w) I.kIn
  exact tail_any hm.typeIs slot_dict_getitem.lookup (wpAny_getItem_of (intKind_is X.prog X.w k t) hm e ⟨z, H, I.tok _, ru, q⟩) hs
/-- d.update(e), e another dict -/
def rUpd : V → List V → Hp → VK → Prop := fun x vs H Q => ∃ (a b : Addr) (ks ls : List (Key × V)), x = .ref a ∧ vs = [.ref b] ∧ a ≠ b ∧ H a = some (.dK ks) ∧ H b = some (.dK ls) ∧ ks.length + ls.length ≤ sizeLine ∧ Q .non (upd H a (.dK (mergeK ks ls)))
theorem mt_upd : MtM X "dict.update" rUpd := by
  intro pins s σ H x vs v us Q I rx rv h
  obtain ⟨a, b, ks, ls, rfl, rfl, ne, ea, eb, hz, q⟩ := h
  cases rx
  obtain ⟨u, rfl, ru⟩ := rv.one
  cases ru
  obtain ⟨z1, hd1, ws1, rel1, dd1⟩ := dk_of I.hok ea
  obtain ⟨z2, hd2, ws2, rel2, dd2⟩ := dk_of I.hok eb
  refine call_meetsIn PySem.F.slot_dict_update dd1.typeIs PySem.F.entry_dict_update (PySem.F.args_dict_update_2 _ _) (meets_dict_update (mixKind X.prog X.w) a b ne hd2)
    ⟨ws1, ws2, dd1, dd2, by rw [← rel1.length, ← rel2.length]; exact hz, fun h' dd' _ hs => ?_⟩
  have he : ∃ q, h'.get? a = some q := let ⟨q, _, _, hq, _⟩ := dd'; ⟨q, hq⟩
  refine ⟨.non, _, d_write I (by rw [ea]; exact True.intro) hs he (dk_new ?_ hd1 (KV.merge rel2 rel1) dd'), rfl, q⟩
  have z := length_mergeK ls ks
  omega
end
end Ki

namespace K82
open PySem PyProof.Rows L2 My Ru I6
def top (i : Nat) : Stmt := PySem.Challenge.pw_trueimage_k82_memory_of_the_machine.main.body.getD i (.Pass ⟨0, 0, 0, 0⟩)
abbrev s_word_of : Stmt := top 7
abbrev s_is_number : Stmt := top 28
abbrev s_encode : Stmt := top 36
abbrev s__are_registers : Stmt := top 37
abbrev s__is_distance : Stmt := top 38
abbrev s__write_three : Stmt := top 39
abbrev s__write_number : Stmt := top 40
abbrev s__write_store : Stmt := top 41
abbrev s__write_branch : Stmt := top 42
abbrev s__write_upper : Stmt := top 43
abbrev s__write_jump : Stmt := top 44
abbrev s__write_whole : Stmt := top 45
abbrev s_decode : Stmt := top 46
abbrev s__with_sign : Stmt := top 47
abbrev s__read_three : Stmt := top 48
abbrev s__read_number : Stmt := top 49
abbrev s__read_store : Stmt := top 50
abbrev s__read_branch : Stmt := top 51
abbrev s__read_upper : Stmt := top 52
abbrev s__read_jump : Stmt := top 53
abbrev s__read_whole : Stmt := top 54
abbrev s_do_instruction : Stmt := top 71
abbrev s__load : Stmt := top 74
abbrev s__store : Stmt := top 75
abbrev s__find : Stmt := top 76
abbrev s_data_start : Stmt := top 90
abbrev s_stack_start : Stmt := top 91
abbrev s__behind : Stmt := top 92
abbrev s_Memory___init__ : Stmt := inClass (top 95) 0
abbrev s_Memory_find : Stmt := inClass (top 95) 1
abbrev s_Processor___init__ : Stmt := inClass (top 99) 0
abbrev s_Processor_word_number : Stmt := inClass (top 99) 1
abbrev s_Processor_put : Stmt := inClass (top 99) 2
abbrev s_Processor_go_astray : Stmt := inClass (top 99) 3
abbrev s_Machine_step : Stmt := inClass (top 102) 0
abbrev s_Machine_field_at : Stmt := inClass (top 102) 2
abbrev s_ReadyMachine___init__ : Stmt := inClass (top 105) 0
abbrev s_ReadyMachine_step : Stmt := inClass (top 105) 1
abbrev s_ReadyMachine_field_at : Stmt := inClass (top 105) 3
abbrev s__law_cell_at : Stmt := top 107
abbrev s__law_draw : Stmt := top 108
abbrev s__law_number : Stmt := top 109
abbrev s__law_next : Stmt := top 110
abbrev s__law_pick : Stmt := top 111
abbrev s__law_image : Stmt := top 112
abbrev s_law : Stmt := top 113
def Ent (K : PySem.W.Frag) (d x : Str) (vs : List V) : Prop := ∃ a, PySem.W.nsIn K (He.ga K d) x = some (some (.ref a)) ∧ ∀ H : Hp, SqT K H a vs
def wnm : Fo → Str
  | .three => "_write_three" | .number => "_write_number" | .shift => "_write_three" | .store => "_write_store" | .branch => "_write_branch" | .upper => "_write_upper" | .jump => "_write_jump" | .whole => "_write_whole"
def rnm : Fo → Str
  | .three => "_read_three" | .number => "_read_number" | .shift => "_read_three" | .store => "_read_store" | .branch => "_read_branch" | .upper => "_read_upper" | .jump => "_read_jump" | .whole => "_read_whole"
/-- the deeds of this law: loads and stores -/
def isBr (o : Nat) : Bool := decide (36 ≤ o) && decide (o < 42)
def isDd (o : Nat) : Bool := (decide (27 ≤ o) && decide (o < 32)) || (decide (33 ≤ o) && decide (o < 36))
def dnm (o : Nat) : Str := if decide (o < 32) = true then "_load" else "_store"
def szM (o : Nat) : Int := if o = 27 ∨ o = 30 ∨ o = 33 then 1 else if o = 28 ∨ o = 31 ∨ o = 34 then 2 else 4
def sgM (o : Nat) : Bool := decide (o = 27) || decide (o = 28)
def memF : List Str := ["data", "data_start", "data_end", "stack", "stack_start", "stack_end"]
def macF : List Str := ["words", "start", "places", "traps", "inputs", "taken", "memory", "pc", "next_pc", "registers", "outputs", "steps", "ended", "instructions"]
def grM0 (many : Int) : Int := if many = 1 then 255 else if many = 2 then 65535 else 4294967295

structure Txt (K : PySem.W.Frag) (mg : Str → Option Value) (w : World) : Prop where
  c_GREATEST : ∃ t, mg "GREATEST" = some (.int (4294967295) t)
  c_HALF : ∃ t, mg "HALF" = some (.int (2147483648) t)
  d_word_of : Df K mg "word_of" s_word_of
  d_is_number : Df K mg "is_number" s_is_number
  c_FORMS : mg "FORMS" = some (.ref (He.ga K "FORMS"))
  k_FORMS : ∃ es n, KDict K w (He.ga K "FORMS") es n
  c_BY_LAST_BITS : mg "BY_LAST_BITS" = some (.ref (He.ga K "BY_LAST_BITS"))
  c_MOST_REGISTER : ∃ t, mg "MOST_REGISTER" = some (.int (31) t)
  c_HALF_NUMBER : ∃ t, mg "HALF_NUMBER" = some (.int (2048) t)
  c_HALF_BRANCH : ∃ t, mg "HALF_BRANCH" = some (.int (4096) t)
  c_HALF_JUMP : ∃ t, mg "HALF_JUMP" = some (.int (1048576) t)
  d_encode : Df K mg "encode" s_encode
  d__are_registers : Df K mg "_are_registers" s__are_registers
  d__is_distance : Df K mg "_is_distance" s__is_distance
  d__write_three : Df K mg "_write_three" s__write_three
  d__write_number : Df K mg "_write_number" s__write_number
  d__write_store : Df K mg "_write_store" s__write_store
  d__write_branch : Df K mg "_write_branch" s__write_branch
  d__write_upper : Df K mg "_write_upper" s__write_upper
  d__write_jump : Df K mg "_write_jump" s__write_jump
  d__write_whole : Df K mg "_write_whole" s__write_whole
  d_decode : Df K mg "decode" s_decode
  d__with_sign : Df K mg "_with_sign" s__with_sign
  d__read_three : Df K mg "_read_three" s__read_three
  d__read_number : Df K mg "_read_number" s__read_number
  d__read_store : Df K mg "_read_store" s__read_store
  d__read_branch : Df K mg "_read_branch" s__read_branch
  d__read_upper : Df K mg "_read_upper" s__read_upper
  d__read_jump : Df K mg "_read_jump" s__read_jump
  d__read_whole : Df K mg "_read_whole" s__read_whole
  c_WRITERS : mg "WRITERS" = some (.ref (He.ga K "WRITERS"))
  k_WRITERS : ∃ es n, KDict K w (He.ga K "WRITERS") es n
  c_READERS : mg "READERS" = some (.ref (He.ga K "READERS"))
  k_READERS : ∃ es n, KDict K w (He.ga K "READERS") es n
  c_ARGS : ∃ t, mg "ARGS" = some (.int (10) t)
  c_DEED : ∃ t, mg "DEED" = some (.int (17) t)
  c_BYTES_instructiondeeds : ∃ t, mg "BYTES_instructiondeeds" = some (.int (4) t)
  c_SIZES : mg "SIZES" = some (.ref (He.ga K "SIZES"))
  k_SIZES : ∃ es n, KDict K w (He.ga K "SIZES") es n
  c_GREATEST_OF : mg "GREATEST_OF" = some (.ref (He.ga K "GREATEST_OF"))
  d_do_instruction : Df K mg "do_instruction" s_do_instruction
  d__load : Df K mg "_load" s__load
  d__store : Df K mg "_store" s__store
  d__find : Df K mg "_find" s__find
  c_DEEDS : mg "DEEDS" = some (.ref (He.ga K "DEEDS"))
  k_DEEDS : ∃ es n, KDict K w (He.ga K "DEEDS") es n
  c_BYTES_linking : ∃ t, mg "BYTES_linking" = some (.int (4) t)
  c_STEP : ∃ t, mg "STEP" = some (.int (16) t)
  d_data_start : Df K mg "data_start" s_data_start
  d_stack_start : Df K mg "stack_start" s_stack_start
  d__behind : Df K mg "_behind" s__behind
  c_BYTES_memory : ∃ t, mg "BYTES_memory" = some (.int (4) t)
  d_Memory___init__ : Dm K (He.ga K "Memory") "__init__" "Memory.__init__" s_Memory___init__
  d_Memory_find : Dm K (He.ga K "Memory") "find" "Memory.find" s_Memory_find
  c_BYTES_processor : ∃ t, mg "BYTES_processor" = some (.int (4) t)
  c_REGISTERS : ∃ t, mg "REGISTERS" = some (.int (32) t)
  d_Processor___init__ : Dm K (He.ga K "Processor") "__init__" "Processor.__init__" s_Processor___init__
  d_Processor_word_number : Dm K (He.ga K "Processor") "word_number" "Processor.word_number" s_Processor_word_number
  d_Processor_put : Dm K (He.ga K "Processor") "put" "Processor.put" s_Processor_put
  d_Processor_go_astray : Dm K (He.ga K "Processor") "go_astray" "Processor.go_astray" s_Processor_go_astray
  c_WORD_BYTES_machine : ∃ t, mg "WORD_BYTES_machine" = some (.int (4) t)
  d_Machine_step : Dm K (He.ga K "Machine") "step" "Machine.step" s_Machine_step
  d_Machine_field_at : Dm K (He.ga K "Machine") "field_at" "Machine.field_at" s_Machine_field_at
  c_WORD_BYTES_readymachine : ∃ t, mg "WORD_BYTES_readymachine" = some (.int (4) t)
  d_ReadyMachine___init__ : Dm K (He.ga K "ReadyMachine") "__init__" "ReadyMachine.__init__" s_ReadyMachine___init__
  d_ReadyMachine_step : Dm K (He.ga K "ReadyMachine") "step" "ReadyMachine.step" s_ReadyMachine_step
  d_ReadyMachine_field_at : Dm K (He.ga K "ReadyMachine") "field_at" "ReadyMachine.field_at" s_ReadyMachine_field_at
  d__law_cell_at : Df K mg "_law_cell_at" s__law_cell_at
  d__law_draw : Df K mg "_law_draw" s__law_draw
  d__law_number : Df K mg "_law_number" s__law_number
  d__law_next : Df K mg "_law_next" s__law_next
  d__law_pick : Df K mg "_law_pick" s__law_pick
  d__law_image : Df K mg "_law_image" s__law_image
  d_law : Df K mg "law" s_law
  cl_Memory : Cl K mg "Memory" (He.ga K "Memory")
  cl_Processor : Cl K mg "Processor" (He.ga K "Processor")
  cl_Machine : Cl K mg "Machine" (He.ga K "Machine")
  cl_ReadyMachine : Cl K mg "ReadyMachine" (He.ga K "ReadyMachine")
  mk_Memory : PySem.W.makesIn K (He.ga K "Memory") = true ∧ PySem.W.keepIn K (.ref (He.ga K "Memory")) = true
  mk_Machine : PySem.W.makesIn K (He.ga K "Machine") = true ∧ PySem.W.keepIn K (.ref (He.ga K "Machine")) = true
  mk_ReadyMachine : PySem.W.makesIn K (He.ga K "ReadyMachine") = true ∧ PySem.W.keepIn K (.ref (He.ga K "ReadyMachine")) = true
  na_Memory : ∀ f ∈ memF, NoAttr K (He.ga K "Memory") f
  na_Machine : ∀ f ∈ macF, NoAttr K (He.ga K "Machine") f
  na_ReadyMachine : ∀ f ∈ macF, NoAttr K (He.ga K "ReadyMachine") f
  hi_Machine_put : PySem.W.findIn K (.ref (He.ga K "Machine")) "put" = PySem.W.findIn K (.ref (He.ga K "Processor")) "put"
  hi_ReadyMachine_put : PySem.W.findIn K (.ref (He.ga K "ReadyMachine")) "put" = PySem.W.findIn K (.ref (He.ga K "Processor")) "put"
  hi_Machine_word_number : PySem.W.findIn K (.ref (He.ga K "Machine")) "word_number" = PySem.W.findIn K (.ref (He.ga K "Processor")) "word_number"
  hi_ReadyMachine_word_number : PySem.W.findIn K (.ref (He.ga K "ReadyMachine")) "word_number" = PySem.W.findIn K (.ref (He.ga K "Processor")) "word_number"
  hi_Machine_go_astray : PySem.W.findIn K (.ref (He.ga K "Machine")) "go_astray" = PySem.W.findIn K (.ref (He.ga K "Processor")) "go_astray"
  hi_ReadyMachine_go_astray : PySem.W.findIn K (.ref (He.ga K "ReadyMachine")) "go_astray" = PySem.W.findIn K (.ref (He.ga K "Processor")) "go_astray"
  hi_Machine_init : PySem.W.findIn K (.ref (He.ga K "Machine")) "__init__" = PySem.W.findIn K (.ref (He.ga K "Processor")) "__init__"
  cf_init : Mh.Cf K (He.ga K "Processor") "__init__"
  ne_cls : He.ga K "Machine" ≠ He.ga K "ReadyMachine"
  bf : Bf.BfTxt K mg (He.ga K "BadForm") (He.ma K (He.ga K "BadForm") "__init__")
  n_len : mg "len" = none
  n_tuple : mg "tuple" = none
  n_isinstance : mg "isinstance" = none
  n_str : mg "str" = none
  n_int : mg "int" = none
  n_bool : mg "bool" = none
  n_all : mg "all" = none
  n_enumerate : mg "enumerate" = none
  n_range : mg "range" = none
  n_list : mg "list" = none
  n_sorted : mg "sorted" = none
  n_sum : mg "sum" = none
  n_dict : mg "dict" = none
  ga__write_three : mg "_write_three" = some (.ref (He.ga K "_write_three"))
  ga__write_number : mg "_write_number" = some (.ref (He.ga K "_write_number"))
  ga__write_store : mg "_write_store" = some (.ref (He.ga K "_write_store"))
  ga__write_branch : mg "_write_branch" = some (.ref (He.ga K "_write_branch"))
  ga__write_upper : mg "_write_upper" = some (.ref (He.ga K "_write_upper"))
  ga__write_jump : mg "_write_jump" = some (.ref (He.ga K "_write_jump"))
  ga__write_whole : mg "_write_whole" = some (.ref (He.ga K "_write_whole"))
  ga__read_three : mg "_read_three" = some (.ref (He.ga K "_read_three"))
  ga__read_number : mg "_read_number" = some (.ref (He.ga K "_read_number"))
  ga__read_store : mg "_read_store" = some (.ref (He.ga K "_read_store"))
  ga__read_branch : mg "_read_branch" = some (.ref (He.ga K "_read_branch"))
  ga__read_upper : mg "_read_upper" = some (.ref (He.ga K "_read_upper"))
  ga__read_jump : mg "_read_jump" = some (.ref (He.ga K "_read_jump"))
  ga__read_whole : mg "_read_whole" = some (.ref (He.ga K "_read_whole"))
  ga__load : mg "_load" = some (.ref (He.ga K "_load"))
  ga__store : mg "_store" = some (.ref (He.ga K "_store"))
  f_ent : ∀ o, o < 48 → Ent K "FORMS" (nm o) [.str (foS (fo o)), .int (la o), .int (pa o), .int (fi o)]
  f_no : ∀ s, posOf nms s = none → PySem.W.nsIn K (He.ga K "FORMS") s = some none
  w_tab : ∀ f, KDct K w (He.ga K "WRITERS") (foS f) (.ref (He.ga K (wnm f)))
  r_tab : ∀ f, KDct K w (He.ga K "READERS") (foS f) (.ref (He.ga K (rnm f)))
  d_tab : ∀ o, isDd o = true → KDct K w (He.ga K "DEEDS") (nm o) (.ref (He.ga K (dnm o)))
  s_tab : ∀ o, isDd o = true → ∃ a, KDct K w (He.ga K "SIZES") (nm o) (.ref a) ∧ ∀ H : Hp, SqT K H a [.int (szM o), .bl (sgM o)]
  k_GR : ∃ es n, Kg.KInt K (He.ga K "GREATEST_OF") es n ∧ ∀ many, many = 1 ∨ many = 2 ∨ many = 4 → ∃ t, findBy Value.isInt es many = some (.int (grM0 many) t)
  k_BY : ∃ es n, Kg.KInt K (He.ga K "BY_LAST_BITS") es n ∧ ∀ l : Int, 0 ≤ l → l < 128 → (byl l = [] → findBy Value.isInt es l = none) ∧ (byl l ≠ [] → ∃ a, findBy Value.isInt es l = some (.ref a) ∧ ∀ H : Hp, SqT K H a ((byl l).map fun o => V.str (nm o)))
open Builtin (bitAnd bitOr)
abbrev CF (K : PySem.W.Frag) : Addr := He.ga K "BadForm"
theorem same_new {H : Hp} {a : Addr} {o : HO} (h : H a = none) : Same H (upd H a o) := fun x u e => by
  rw [upd_ne (ne_of_none e h)]; exact e
theorem Same.tr {H H1 H2 : Hp} (a : Same H H1) (b : Same H1 H2) : Same H H2 := fun x o e => b x o (a x o e)
theorem Same.rf {H : Hp} : Same H H := fun _ _ e => e
def vO : O → V
  | none => .non
  | some i => .int i
def wrO (f : Fo) (x y z : O) : V := if ok f x y z = true then .int (wr f (x.getD 0) (y.getD 0) (z.getD 0)) else .non
def insM (n : V) (x y z : O) : Option Nat := match n with
  | .str s => (posOf nms s).bind fun o => if ok (fo o) x y z = true then some o else none
  | _ => none
def insV (o : Nat) (q : Int × Int × Int) : List V := [.str (nm o), .int q.1, .int q.2.1, .int q.2.2]
/-- how a wrong thing is told -/
def bad (K : PySem.W.Frag) (H : Hp) (v : V) (E : XK) : Prop := ∀ (H' : Hp) (d : Addr), Same H H' → H' d = none → E (.ref (CF K)) (some d) (upd H' d (.xd (bfFs v)))
def txO (q : V × O × O × O) : Option Str := (insM q.1 q.2.1 q.2.2.1 q.2.2.2).map fun o => txM o (q.2.1.getD 0) (q.2.2.1.getD 0) (q.2.2.2.getD 0)
def wtM (w : Int) : Str := match decM w with
  | none => Str.empty ++ "word " ++ num w
  | some o => txM o (rd (fo o) w).1 (rd (fo o) w).2.1 (rd (fo o) w).2.2
/-! promises -/
def sp_is_number (K : PySem.W.Frag) : Sp := sp3 fun x y z H Q _ => ∃ (n : O) (a b : Int), x = vO n ∧ y = .int a ∧ z = .int b ∧ Q (.bl (isN n a b)) H
def sp__are_registers (K : PySem.W.Frag) : Sp := sp3 fun x y z H Q _ => ∃ a b c : O, x = vO a ∧ y = vO b ∧ z = vO c ∧ ∀ H', Same H H' → Q (.bl (isN a 0 31 && (isN b 0 31 && isN c 0 31))) H'
def sp__is_distance (K : PySem.W.Frag) : Sp := sp2 fun x y H Q _ => ∃ (d : O) (h : Int), x = vO d ∧ y = .int h ∧ Q (.bl (dist d h)) H
def spW (f : Fo) : Sp := sp3 fun x y z H Q _ => ∃ a b c : O, x = vO a ∧ y = vO b ∧ z = vO c ∧ ∀ H', Same H H' → Q (wrO f a b c) H'
def sp__write_three (K : PySem.W.Frag) : Sp := spW .three
def sp__write_number (K : PySem.W.Frag) : Sp := spW .number
def sp__write_store (K : PySem.W.Frag) : Sp := spW .store
def sp__write_branch (K : PySem.W.Frag) : Sp := spW .branch
def sp__write_upper (K : PySem.W.Frag) : Sp := spW .upper
def sp__write_jump (K : PySem.W.Frag) : Sp := spW .jump
def sp__write_whole (K : PySem.W.Frag) : Sp := spW .whole
def sp_encode (K : PySem.W.Frag) : Sp := sp1 fun x H Q E => ∃ (p : Addr) (n : V) (a b c : O), x = .ref p ∧ H p = some (.tup [n, vO a, vO b, vO c]) ∧ (n = .non ∨ ∃ s, n = .str s) ∧
  (∀ o, insM n a b c = some o → ∀ H', Same H H' → Q (.int (wordM o (a.getD 0) (b.getD 0) (c.getD 0))) H') ∧ (insM n a b c = none → bad K H x E)
def sp__with_sign (K : PySem.W.Frag) : Sp := sp2 fun x y H Q _ => ∃ n h : Int, x = .int n ∧ y = .int h ∧ Q (.int (B6.sgn n h)) H
def spR (f : Fo) : Sp := sp1 fun x H Q _ => ∃ w : Int, x = .int w ∧ 0 ≤ w ∧ w < 4294967296 ∧ ∀ p, H p = none → Q (.ref p) (upd H p (.tup [.int (rd f w).1, .int (rd f w).2.1, .int (rd f w).2.2]))
def sp__read_three (K : PySem.W.Frag) : Sp := spR .three
def sp__read_number (K : PySem.W.Frag) : Sp := spR .number
def sp__read_store (K : PySem.W.Frag) : Sp := spR .store
def sp__read_branch (K : PySem.W.Frag) : Sp := spR .branch
def sp__read_upper (K : PySem.W.Frag) : Sp := spR .upper
def sp__read_jump (K : PySem.W.Frag) : Sp := spR .jump
def sp__read_whole (K : PySem.W.Frag) : Sp := spR .whole
def sp_decode (K : PySem.W.Frag) : Sp := sp1 fun x H Q _ => ∃ w : Int, x = .int w ∧ 0 ≤ w ∧ w < 4294967296 ∧ (decM w = none → ∀ H', Same H H' → Q .non H') ∧
  ∀ o, decM w = some o → ∀ (H' : Hp) (p : Addr), Same H H' → H' p = some (.tup (insV o (rd (fo o) w))) → Q (.ref p) H'
def valsP (q : V × O × O × O) : List V := [q.1, vO q.2.1, vO q.2.2.1, vO q.2.2.2]

def ButL (as : List Addr) (H H' : Hp) : Prop := ∀ b o, H b = some o → ¬ b ∈ as → H' b = some o
theorem ButL.refl {as : List Addr} {H : Hp} : ButL as H H := fun _ _ e _ => e
theorem ButL.trans {as : List Addr} {H H1 H2 : Hp} (a : ButL as H H1) (b : ButL as H1 H2) : ButL as H H2 := fun x o e h => b x o (a x o e h) h
theorem ButL.same {as : List Addr} {H H1 : Hp} (a : Same H H1) : ButL as H H1 := fun x o e _ => a x o e
theorem ButL.put {as : List Addr} {H : Hp} {a : Addr} {o : HO} (h : a ∈ as) : ButL as H (upd H a o) := fun x u e n => by
  rw [upd_ne (fun z => n (by rw [z]; exact h))]; exact e
theorem ButL.wide {as bs : List Addr} {H H1 : Hp} (a : ButL as H H1) (h : ∀ b, b ∈ as → b ∈ bs) : ButL bs H H1 := fun x o e n => a x o e fun z => n (h x z)
abbrev CM (K : PySem.W.Frag) : Addr := He.ga K "Machine"
abbrev CR (K : PySem.W.Frag) : Addr := He.ga K "ReadyMachine"
abbrev CE (K : PySem.W.Frag) : Addr := He.ga K "Memory"
structure Mc where
  (wa pl tr inp me rg ou : Addr)
  (st tk pc nx sp : Int)
  en : V
  xs : List (Str × V)
def mfs (m : Mc) : List (Str × V) := ("words", .ref m.wa) :: ("start", .int m.st) :: ("places", .ref m.pl) :: ("traps", .ref m.tr) :: ("inputs", .ref m.inp) :: ("taken", .int m.tk) :: ("memory", .ref m.me) :: ("pc", .int m.pc) :: ("next_pc", .int m.nx) :: ("registers", .ref m.rg) :: ("outputs", .ref m.ou) :: ("steps", .int m.sp) :: ("ended", m.en) :: m.xs
def xsOk (xs : List (Str × V)) : Prop := xs = [] ∨ ∃ i : Addr, xs = [(("instructions" : Str), V.ref i)]
structure MAt (K : PySem.W.Frag) (H : Hp) (a C dx : Addr) (m : Mc) (regs : List Int) : Prop where
  at_ : H a = some (.ins C dx (mfs m))
  cl : C = CM K ∨ C = CR K
  rg : H m.rg = some (.lst (regs.map V.int))
  ln : regs.length = 32
  ne : m.rg ≠ a
  xo : xsOk m.xs
theorem MAt.keep {K : PySem.W.Frag} {H H' : Hp} {a C dx : Addr} {m m' : Mc} {regs regs' : List Int} (h : MAt K H a C dx m regs) (e : H' a = some (.ins C dx (mfs m'))) (f : H' m.rg = some (.lst (regs'.map V.int))) (g : m'.rg = m.rg) (l : regs'.length = 32) (x : m'.xs = m.xs) : MAt K H' a C dx m' regs' :=
  ⟨e, h.cl, by rw [g]; exact f, l, by rw [g]; exact h.ne, by rw [x]; exact h.xo⟩
def W32 : Int := 4294967296
def putR (regs : List Int) (g v : Int) : List Int := if g = 0 then regs else regs.set g.toNat v
def rgAt (regs : List Int) (i : Int) : Int := regs.getD i.toNat 0
def sg (w : Int) : Int := if 2147483648 ≤ w then w - 4294967296 else w
/-- is the branch taken -/
def tkn (o : Nat) (a b : Int) : Bool := if o = 36 then decide (a = b) else if o = 37 then !decide (a = b) else if o = 38 then decide (sg a < sg b) else if o = 39 then !decide (sg a < sg b) else if o = 40 then decide (a < b) else !decide (a < b)
def qOk (o : Nat) (q : Int × Int × Int) : Prop := 0 ≤ q.1 ∧ q.1 < 32 ∧ (o = 44 ∨ (0 ≤ q.2.1 ∧ q.2.1 < 32)) ∧ -1048576 ≤ q.2.1 ∧ q.2.1 ≤ 1048576 ∧ -4096 ≤ q.2.2 ∧ q.2.2 ≤ 4096
/-! a machine as plain data -/
structure Cfg where
  ws : List Int
  b : Int
/-- where a machine's memory lies -/
structure Mm where
  (da sa : Addr)
  (ds de ss se : Int)
structure PS where
  (pc nx : Int)
  regs : List Int
  sp : Int
  en : Option (List V)
  (dat stk : List Int)
def asV (pc : Int) : List V := [.str "astray", .int pc]
/-- the place of an address: in the stack or not, the word's number -/
def plc (mm : Mm) (a many : Int) : Option (Bool × Int) := if a % many = 0 then (if mm.ss ≤ a ∧ a + many ≤ mm.se then some (true, (a - mm.ss) / 4) else if mm.ds ≤ a ∧ a + many ≤ mm.de then some (false, (a - mm.ds) / 4) else none) else none
abbrev grM : Int → Int := grM0
def ldW (o : Nat) (w ahead : Int) : Int := let x := (w / 2 ^ ahead.toNat) % (grM (szM o) + 1); if sgM o = true ∧ grM (szM o) / 2 < x then (x - grM (szM o) - 1) % 4294967296 else x
def stW (many w r ahead : Int) : Int := bitOr (bitAnd w (Builtin.bitNot (grM many * 2 ^ ahead.toNat))) (bitAnd r (grM many) * 2 ^ ahead.toNat)
def cells (s : PS) (b : Bool) : List Int := if b = true then s.stk else s.dat
def adM (s : PS) (base num : Int) : Int := (rgAt s.regs base + num) % 4294967296
def loP (mm : Mm) (o : Nat) (q : Int × Int × Int) (s : PS) : PS := match plc mm (adM s q.2.1 q.2.2) (szM o) with
  | none => { s with en := some (asV s.pc) }
  | some (b, k) => { s with regs := putR s.regs q.1 (ldW o ((cells s b).getD k.toNat 0) (8 * (adM s q.2.1 q.2.2 % 4))) }
def stP (mm : Mm) (o : Nat) (q : Int × Int × Int) (s : PS) : PS := match plc mm (adM s q.1 q.2.2) (szM o) with
  | none => { s with en := some (asV s.pc) }
  | some (true, k) => { s with stk := s.stk.set k.toNat (stW (szM o) (s.stk.getD k.toNat 0) (rgAt s.regs q.2.1) (8 * (adM s q.1 q.2.2 % 4))) }
  | some (false, k) => { s with dat := s.dat.set k.toNat (stW (szM o) (s.dat.getD k.toNat 0) (rgAt s.regs q.2.1) (8 * (adM s q.1 q.2.2 % 4))) }
def doD (mm : Mm) (o : Nat) (q : Int × Int × Int) (s : PS) : PS := if decide (o < 32) = true then loP mm o q s else stP mm o q s
def fin1 (s : PS) : PS := match s.en with
  | none => { s with pc := s.nx }
  | some _ => s
def doI (mm : Mm) (o : Nat) (q : Int × Int × Int) (s : PS) : PS := fin1 (doD mm o q { s with sp := s.sp + 1, nx := (s.pc + 4) % 4294967296 })
def wnO (c : Cfg) (pc : Int) : Option Nat := if pc % 4 = 0 ∧ 0 ≤ pc - c.b ∧ pc - c.b < 4 * (c.ws.length : Int) then some ((pc - c.b) / 4).toNat else none
def wnI : Option Nat → Int
  | none => -1
  | some i => (i : Int)
def stepP (c : Cfg) (mm : Mm) (s : PS) : PS := match wnO c s.pc with
  | none => { s with en := some (asV s.pc) }
  | some i => match decM (c.ws.getD i 0) with
    | none => { s with en := some (asV s.pc) }
    | some o => doI mm o (rd (fo o) (c.ws.getD i 0)) s
def regs0 : List Int := List.replicate 32 0
structure OkC (c : Cfg) : Prop where
  b4 : c.b % 4 = 0
  ws : ∀ w ∈ c.ws, (0 ≤ w ∧ w < 4294967296) ∧ ∀ o, decM w = some o → isDd o = true ∧ qOk o (rd (fo o) w)
  ln : c.ws.length ≤ 1000
/-- the memory's places fit its lists -/
structure OkM (mm : Mm) (s : PS) : Prop where
  d0 : mm.ds % 4 = 0
  s0 : mm.ss % 4 = 0
  dl : mm.de = mm.ds + 4 * (s.dat.length : Int)
  sl : mm.se = mm.ss + 4 * (s.stk.length : Int)
  dn : s.dat.length ≤ 1000
  sn : s.stk.length ≤ 1000
def InsL (H : Hp) (ws : List Int) (n : Nat) (vs : List V) : Prop := vs.length = n ∧ ∀ i, i < n → ∀ w, ws[i]? = some w → (decM w = none → vs[i]? = some .non) ∧ ∀ o, decM w = some o → ∃ p : Addr, vs[i]? = some (.ref p) ∧ H p = some (.tup (insV o (rd (fo o) w)))
def mmF (mm : Mm) : List (Str × V) := [("data", .ref mm.da), ("data_start", .int mm.ds), ("data_end", .int mm.de), ("stack", .ref mm.sa), ("stack_start", .int mm.ss), ("stack_end", .int mm.se)]
/-- a machine at an address -/
structure MS (K : PySem.W.Frag) (H : Hp) (a C dx : Addr) (m : Mc) (mm : Mm) (c : Cfg) (s : PS) : Prop where
  M : MAt K H a C dx m s.regs
  pc : m.pc = s.pc
  nx : m.nx = s.nx
  sp : m.sp = s.sp
  en : (s.en = none ∧ m.en = .non) ∨ ∃ vs t, s.en = some vs ∧ m.en = .ref t ∧ H t = some (.tup vs)
  me : ∃ dm, H m.me = some (.ins (CE K) dm (mmF mm))
  nme : m.me ≠ a
  da : H mm.da = some (.lst (s.dat.map V.int))
  sa : H mm.sa = some (.lst (s.stk.map V.int))
  n1 : mm.da ≠ m.rg
  n2 : mm.sa ≠ m.rg
  n3 : mm.da ≠ mm.sa
  w : SqT K H m.wa (c.ws.map V.int)
  st : m.st = c.b
  cr : C = CR K → ∃ (l : Addr) (vs : List V), m.xs = [(("instructions" : Str), V.ref l)] ∧ H l = some (.lst vs) ∧ l ≠ m.rg ∧ l ≠ mm.da ∧ l ≠ mm.sa ∧ InsL H c.ws c.ws.length vs
structure FR (H H' : Hp) (a : Addr) (mm : Mm) (m m' : Mc) : Prop where
  bt : ButL [a, m.rg, mm.da, mm.sa] H H'
  rg : m'.rg = m.rg
theorem FR.trans {H H1 H2 : Hp} {a : Addr} {mm : Mm} {m m1 m2 : Mc} (f : FR H H1 a mm m m1) (g : FR H1 H2 a mm m1 m2) : FR H H2 a mm m m2 :=
  ⟨ButL.trans f.bt (by have := g.bt; rw [f.rg] at this; exact this), g.rg.trans f.rg⟩
theorem FR.rf {H : Hp} {a : Addr} {mm : Mm} {m : Mc} : FR H H a mm m m := ⟨ButL.refl, rfl⟩
theorem FR.same {H H1 : Hp} {a : Addr} {mm : Mm} {m : Mc} (s : Same H H1) : FR H H1 a mm m m := ⟨ButL.same s, rfl⟩
def Nx (K : PySem.W.Frag) (H : Hp) (a C dx : Addr) (m : Mc) (mm : Mm) (c : Cfg) (s : PS) (Q : VK) : Prop := ∀ (H' : Hp) (m' : Mc), MS K H' a C dx m' mm c s → FR H H' a mm m m' → Q .non H'
/-! promises -/
def sp_word_of (K : PySem.W.Frag) : Sp := sp1 fun x H Q _ => ∃ n : Int, x = .int n ∧ Q (.int (n % 4294967296)) H
def bh (n : Int) : Int := (n + 15) / 16 * 16
def sp__behind (K : PySem.W.Frag) : Sp := sp1 fun x H Q _ => ∃ n : Int, x = .int n ∧ Q (.int (bh n)) H
structure ImAt (K : PySem.W.Frag) (H : Hp) (p wa da pl tr : Addr) (ws : List Int) (ds ps : List V) (stk base : Int) : Prop where
  at_ : ∃ v5 v6 : V, H p = some (.tup [.ref wa, .ref da, .int stk, .int 1, .ref pl, .ref tr, v5, v6, .int base])
  w : SqT K H wa (ws.map V.int)
  d : SqT K H da ds
  p : SqT K H pl ps
def sp_data_start (K : PySem.W.Frag) : Sp := sp1 fun x H Q _ => ∃ (p wa da pl tr : Addr) (ws : List Int) (ds ps : List V) (stk b : Int), x = .ref p ∧ ImAt K H p wa da pl tr ws ds ps stk b ∧ Q (.int (bh (b + 4 * (ws.length : Int)))) H
def sp_stack_start (K : PySem.W.Frag) : Sp := sp1 fun x H Q _ => ∃ (p wa da pl tr : Addr) (ws : List Int) (ds ps : List V) (stk b : Int), x = .ref p ∧ ImAt K H p wa da pl tr ws ds ps stk b ∧ Q (.int (bh (bh (b + 4 * (ws.length : Int)) + 4 * (ds.length : Int)))) H
def AtI (c : Cfg) (s : PS) (i : Nat) : Prop := i < c.ws.length ∧ s.pc = c.b + 4 * (i : Int)
def many_ok (many : Int) : Prop := many = 1 ∨ many = 2 ∨ many = 4
def plcV (mm : Mm) (a many : Int) : List V := match plc mm a many with
  | none => [.non, .int 0]
  | some (true, k) => [.ref mm.sa, .int k]
  | some (false, k) => [.ref mm.da, .int k]
def sp_Memory_find (K : PySem.W.Frag) : Sp := sp3 fun x y z H Q _ => ∃ (e dm : Addr) (mm : Mm) (a many : Int), x = .ref e ∧ y = .int a ∧ z = .int many ∧ many_ok many ∧ H e = some (.ins (CE K) dm (mmF mm)) ∧ ∀ (H' : Hp) (p : Addr), Same H H' → H' p = some (.tup (plcV mm a many)) → Q (.ref p) H'
def sp__find (K : PySem.W.Frag) : Sp := sp4 fun x y z u H Q _ => ∃ (a C dx : Addr) (m : Mc) (mm : Mm) (c : Cfg) (s : PS) (base num many : Int), x = .ref a ∧ y = .int base ∧ z = .int num ∧ u = .int many ∧ 0 ≤ base ∧ base < 32 ∧ many_ok many ∧ MS K H a C dx m mm c s ∧
  (∀ b k, plc mm (adM s base num) many = some (b, k) → ∀ (H' : Hp) (p : Addr), Same H H' → H' p = some (.tup [.ref (if b = true then mm.sa else mm.da), .int k, .int (8 * (adM s base num % 4))]) → Q (.ref p) H') ∧
  (plc mm (adM s base num) many = none → ∀ (H' : Hp) (m' : Mc) (p : Addr), MS K H' a C dx m' mm c { s with en := some (asV s.pc) } → FR H H' a mm m m' → H' p = some (.tup [.non, .int 0, .int (8 * (adM s base num % 4))]) → Q (.ref p) H')
/-- one deed -/
def spD (ok : Nat → Bool) (K : PySem.W.Frag) : Sp := sp2 fun x y H Q _ => ∃ (a p C dx : Addr) (m : Mc) (mm : Mm) (c : Cfg) (s : PS) (o : Nat) (q : Int × Int × Int), x = .ref a ∧ y = .ref p ∧ isDd o = true ∧ ok o = true ∧ qOk o q ∧ MS K H a C dx m mm c s ∧ OkM mm s ∧ s.en = none ∧ H p = some (.tup (insV o q)) ∧ Nx K H a C dx m mm c (doD mm o q s) Q
def sp__load (K : PySem.W.Frag) : Sp := spD (fun o => decide (o < 32)) K
def sp__store (K : PySem.W.Frag) : Sp := spD (fun o => !decide (o < 32)) K
def sp_Processor_word_number (K : PySem.W.Frag) : Sp := sp1 fun x H Q _ => ∃ (a C dx : Addr) (m : Mc) (mm : Mm) (c : Cfg) (s : PS), x = .ref a ∧ MS K H a C dx m mm c s ∧ c.b % 4 = 0 ∧ Q (.int (wnI (wnO c s.pc))) H
def sp_Processor_put (K : PySem.W.Frag) : Sp := sp3 fun x y z H Q _ => ∃ (a C dx : Addr) (m : Mc) (mm : Mm) (c : Cfg) (s : PS) (g v : Int), x = .ref a ∧ y = .int g ∧ z = .int v ∧ 0 ≤ g ∧ g < 32 ∧ MS K H a C dx m mm c s ∧ Nx K H a C dx m mm c { s with regs := putR s.regs g v } Q
def sp_Processor_go_astray (K : PySem.W.Frag) : Sp := sp1 fun x H Q _ => ∃ (a C dx : Addr) (m : Mc) (mm : Mm) (c : Cfg) (s : PS), x = .ref a ∧ MS K H a C dx m mm c s ∧ Nx K H a C dx m mm c { s with en := some (asV s.pc) } Q
def sp_do_instruction (K : PySem.W.Frag) : Sp := sp2 fun x y H Q _ => ∃ (a p C dx : Addr) (m : Mc) (mm : Mm) (c : Cfg) (s : PS) (o : Nat) (q : Int × Int × Int), x = .ref a ∧ y = .ref p ∧ isDd o = true ∧ qOk o q ∧ MS K H a C dx m mm c s ∧ OkM mm s ∧ s.en = none ∧ H p = some (.tup (insV o q)) ∧ Nx K H a C dx m mm c (doI mm o q s) Q
def spStep (K : PySem.W.Frag) (C : Addr) : Sp := sp1 fun x H Q _ => ∃ (a dx : Addr) (m : Mc) (mm : Mm) (c : Cfg) (s : PS), x = .ref a ∧ MS K H a C dx m mm c s ∧ OkC c ∧ OkM mm s ∧ s.en = none ∧ Nx K H a C dx m mm c (stepP c mm s) Q
def sp_Machine_step (K : PySem.W.Frag) : Sp := spStep K (CM K)
def sp_ReadyMachine_step (K : PySem.W.Frag) : Sp := spStep K (CR K)
def spField (K : PySem.W.Frag) (C : Addr) : Sp := sp2 fun x y H Q _ => ∃ (a dx : Addr) (m : Mc) (mm : Mm) (c : Cfg) (s : PS) (ad : Int), x = .ref a ∧ y = .int ad ∧ MS K H a C dx m mm c s ∧ ∀ (H' : Hp) (p : Addr), Same H H' → H' p = some (.tup (plcV mm ad 4)) → Q (.ref p) H'
def sp_Machine_field_at (K : PySem.W.Frag) : Sp := spField K (CM K)
def sp_ReadyMachine_field_at (K : PySem.W.Frag) : Sp := spField K (CR K)

end K82

namespace K82E
open PySem PySem.Spec PyProof.Rows L2 My Ru I6 K82
abbrev s_BadForm___init__ : Stmt := inClass (top 3) 0
def dd_word_of : He.DefD := ⟨("word_of", none), "word_of", "word_of", defArgs s_word_of, defBody s_word_of, defScope s_word_of, [], []⟩
def dd_is_number : He.DefD := ⟨("is_number", none), "is_number", "is_number", defArgs s_is_number, defBody s_is_number, defScope s_is_number, [], []⟩
def dd_encode : He.DefD := ⟨("encode", none), "encode", "encode", defArgs s_encode, defBody s_encode, defScope s_encode, [], []⟩
def dd__are_registers : He.DefD := ⟨("_are_registers", none), "_are_registers", "_are_registers", defArgs s__are_registers, defBody s__are_registers, defScope s__are_registers, [], []⟩
def dd__is_distance : He.DefD := ⟨("_is_distance", none), "_is_distance", "_is_distance", defArgs s__is_distance, defBody s__is_distance, defScope s__is_distance, [], []⟩
def dd__write_three : He.DefD := ⟨("_write_three", none), "_write_three", "_write_three", defArgs s__write_three, defBody s__write_three, defScope s__write_three, [], []⟩
def dd__write_number : He.DefD := ⟨("_write_number", none), "_write_number", "_write_number", defArgs s__write_number, defBody s__write_number, defScope s__write_number, [], []⟩
def dd__write_store : He.DefD := ⟨("_write_store", none), "_write_store", "_write_store", defArgs s__write_store, defBody s__write_store, defScope s__write_store, [], []⟩
def dd__write_branch : He.DefD := ⟨("_write_branch", none), "_write_branch", "_write_branch", defArgs s__write_branch, defBody s__write_branch, defScope s__write_branch, [], []⟩
def dd__write_upper : He.DefD := ⟨("_write_upper", none), "_write_upper", "_write_upper", defArgs s__write_upper, defBody s__write_upper, defScope s__write_upper, [], []⟩
def dd__write_jump : He.DefD := ⟨("_write_jump", none), "_write_jump", "_write_jump", defArgs s__write_jump, defBody s__write_jump, defScope s__write_jump, [], []⟩
def dd__write_whole : He.DefD := ⟨("_write_whole", none), "_write_whole", "_write_whole", defArgs s__write_whole, defBody s__write_whole, defScope s__write_whole, [], []⟩
def dd_decode : He.DefD := ⟨("decode", none), "decode", "decode", defArgs s_decode, defBody s_decode, defScope s_decode, [], []⟩
def dd__with_sign : He.DefD := ⟨("_with_sign", none), "_with_sign", "_with_sign", defArgs s__with_sign, defBody s__with_sign, defScope s__with_sign, [], []⟩
def dd__read_three : He.DefD := ⟨("_read_three", none), "_read_three", "_read_three", defArgs s__read_three, defBody s__read_three, defScope s__read_three, [], []⟩
def dd__read_number : He.DefD := ⟨("_read_number", none), "_read_number", "_read_number", defArgs s__read_number, defBody s__read_number, defScope s__read_number, [], []⟩
def dd__read_store : He.DefD := ⟨("_read_store", none), "_read_store", "_read_store", defArgs s__read_store, defBody s__read_store, defScope s__read_store, [], []⟩
def dd__read_branch : He.DefD := ⟨("_read_branch", none), "_read_branch", "_read_branch", defArgs s__read_branch, defBody s__read_branch, defScope s__read_branch, [], []⟩
def dd__read_upper : He.DefD := ⟨("_read_upper", none), "_read_upper", "_read_upper", defArgs s__read_upper, defBody s__read_upper, defScope s__read_upper, [], []⟩
def dd__read_jump : He.DefD := ⟨("_read_jump", none), "_read_jump", "_read_jump", defArgs s__read_jump, defBody s__read_jump, defScope s__read_jump, [], []⟩
def dd__read_whole : He.DefD := ⟨("_read_whole", none), "_read_whole", "_read_whole", defArgs s__read_whole, defBody s__read_whole, defScope s__read_whole, [], []⟩
def dd_do_instruction : He.DefD := ⟨("do_instruction", none), "do_instruction", "do_instruction", defArgs s_do_instruction, defBody s_do_instruction, defScope s_do_instruction, [], []⟩
def dd__load : He.DefD := ⟨("_load", none), "_load", "_load", defArgs s__load, defBody s__load, defScope s__load, [], []⟩
def dd__store : He.DefD := ⟨("_store", none), "_store", "_store", defArgs s__store, defBody s__store, defScope s__store, [], []⟩
def dd__find : He.DefD := ⟨("_find", none), "_find", "_find", defArgs s__find, defBody s__find, defScope s__find, [], []⟩
def dd_data_start : He.DefD := ⟨("data_start", none), "data_start", "data_start", defArgs s_data_start, defBody s_data_start, defScope s_data_start, [], []⟩
def dd_stack_start : He.DefD := ⟨("stack_start", none), "stack_start", "stack_start", defArgs s_stack_start, defBody s_stack_start, defScope s_stack_start, [], []⟩
def dd__behind : He.DefD := ⟨("_behind", none), "_behind", "_behind", defArgs s__behind, defBody s__behind, defScope s__behind, [], []⟩
def dd__law_cell_at : He.DefD := ⟨("_law_cell_at", none), "_law_cell_at", "_law_cell_at", defArgs s__law_cell_at, defBody s__law_cell_at, defScope s__law_cell_at, [], []⟩
def dd__law_draw : He.DefD := ⟨("_law_draw", none), "_law_draw", "_law_draw", defArgs s__law_draw, defBody s__law_draw, defScope s__law_draw, [], []⟩
def dd__law_number : He.DefD := ⟨("_law_number", none), "_law_number", "_law_number", defArgs s__law_number, defBody s__law_number, defScope s__law_number, [], []⟩
def dd__law_next : He.DefD := ⟨("_law_next", none), "_law_next", "_law_next", defArgs s__law_next, defBody s__law_next, defScope s__law_next, [], []⟩
def dd__law_pick : He.DefD := ⟨("_law_pick", none), "_law_pick", "_law_pick", defArgs s__law_pick, defBody s__law_pick, defScope s__law_pick, [], []⟩
def dd__law_image : He.DefD := ⟨("_law_image", none), "_law_image", "_law_image", defArgs s__law_image, defBody s__law_image, defScope s__law_image, [], []⟩
def dd_law : He.DefD := ⟨("law", none), "law", "law", defArgs s_law, defBody s_law, defScope s_law, [], []⟩
def dd_BadForm___init__ : He.DefD := ⟨("BadForm", some "__init__"), "__init__", "BadForm.__init__", defArgs s_BadForm___init__, defBody s_BadForm___init__, defScope s_BadForm___init__, [], []⟩
def dd_Memory___init__ : He.DefD := ⟨("Memory", some "__init__"), "__init__", "Memory.__init__", defArgs s_Memory___init__, defBody s_Memory___init__, defScope s_Memory___init__, [], []⟩
def dd_Memory_find : He.DefD := ⟨("Memory", some "find"), "find", "Memory.find", defArgs s_Memory_find, defBody s_Memory_find, defScope s_Memory_find, [], []⟩
def dd_Processor___init__ : He.DefD := ⟨("Processor", some "__init__"), "__init__", "Processor.__init__", defArgs s_Processor___init__, defBody s_Processor___init__, defScope s_Processor___init__, [], []⟩
def dd_Processor_word_number : He.DefD := ⟨("Processor", some "word_number"), "word_number", "Processor.word_number", defArgs s_Processor_word_number, defBody s_Processor_word_number, defScope s_Processor_word_number, [], []⟩
def dd_Processor_put : He.DefD := ⟨("Processor", some "put"), "put", "Processor.put", defArgs s_Processor_put, defBody s_Processor_put, defScope s_Processor_put, [], []⟩
def dd_Processor_go_astray : He.DefD := ⟨("Processor", some "go_astray"), "go_astray", "Processor.go_astray", defArgs s_Processor_go_astray, defBody s_Processor_go_astray, defScope s_Processor_go_astray, [], []⟩
def dd_Machine_step : He.DefD := ⟨("Machine", some "step"), "step", "Machine.step", defArgs s_Machine_step, defBody s_Machine_step, defScope s_Machine_step, [], []⟩
def dd_Machine_field_at : He.DefD := ⟨("Machine", some "field_at"), "field_at", "Machine.field_at", defArgs s_Machine_field_at, defBody s_Machine_field_at, defScope s_Machine_field_at, [], []⟩
def dd_ReadyMachine___init__ : He.DefD := ⟨("ReadyMachine", some "__init__"), "__init__", "ReadyMachine.__init__", defArgs s_ReadyMachine___init__, defBody s_ReadyMachine___init__, defScope s_ReadyMachine___init__, [], []⟩
def dd_ReadyMachine_step : He.DefD := ⟨("ReadyMachine", some "step"), "step", "ReadyMachine.step", defArgs s_ReadyMachine_step, defBody s_ReadyMachine_step, defScope s_ReadyMachine_step, [], []⟩
def dd_ReadyMachine_field_at : He.DefD := ⟨("ReadyMachine", some "field_at"), "field_at", "ReadyMachine.field_at", defArgs s_ReadyMachine_field_at, defBody s_ReadyMachine_field_at, defScope s_ReadyMachine_field_at, [], []⟩
def hfn : List He.DefD := ([dd_word_of, dd_is_number, dd_encode, dd__are_registers, dd__is_distance, dd__write_three, dd__write_number, dd__write_store, dd__write_branch, dd__write_upper, dd__write_jump, dd__write_whole, dd_decode, dd__with_sign, dd__read_three, dd__read_number, dd__read_store, dd__read_branch, dd__read_upper, dd__read_jump] : List He.DefD) ++ ([dd__read_whole, dd_do_instruction, dd__load, dd__store, dd__find, dd_data_start, dd_stack_start, dd__behind, dd__law_cell_at, dd__law_draw, dd__law_number, dd__law_next, dd__law_pick, dd__law_image, dd_law, dd_BadForm___init__, dd_Memory___init__, dd_Memory_find, dd_Processor___init__, dd_Processor_word_number] : List He.DefD) ++ ([dd_Processor_put, dd_Processor_go_astray, dd_Machine_step, dd_Machine_field_at, dd_ReadyMachine___init__, dd_ReadyMachine_step, dd_ReadyMachine_field_at] : List He.DefD)
def hfa : List He.Fa := ([.glo "word_of", .glo "is_number", .glo "encode", .glo "_are_registers", .glo "_is_distance", .glo "_write_three", .glo "_write_number", .glo "_write_store", .glo "_write_branch", .glo "_write_upper", .glo "_write_jump", .glo "_write_whole", .glo "decode", .glo "_with_sign", .glo "_read_three", .glo "_read_number", .glo "_read_store", .glo "_read_branch", .glo "_read_upper", .glo "_read_jump"] : List He.Fa) ++ ([.glo "_read_whole", .glo "do_instruction", .glo "_load", .glo "_store", .glo "_find", .glo "data_start", .glo "stack_start", .glo "_behind", .glo "_law_cell_at", .glo "_law_draw", .glo "_law_number", .glo "_law_next", .glo "_law_pick", .glo "_law_image", .glo "law", .glo "FORMS", .glo "BY_LAST_BITS", .glo "WRITERS", .glo "READERS", .glo "SIZES"] : List He.Fa) ++ ([.glo "GREATEST_OF", .glo "DEEDS", .glo "BadForm", .glo "Memory", .glo "Processor", .glo "Machine", .glo "ReadyMachine", .free "len", .free "tuple", .free "isinstance", .free "str", .free "int", .free "bool", .free "all", .free "enumerate", .free "range", .free "list", .free "sorted", .free "sum", .free "dict"] : List He.Fa) ++ ([.int "GREATEST" (4294967295), .int "HALF" (2147483648), .int "MOST_REGISTER" (31), .int "HALF_NUMBER" (2048), .int "HALF_BRANCH" (4096), .int "HALF_JUMP" (1048576), .int "ARGS" (10), .int "DEED" (17), .int "BYTES_instructiondeeds" (4), .int "BYTES_linking" (4), .int "STEP" (16), .int "BYTES_memory" (4), .int "BYTES_processor" (4), .int "REGISTERS" (32), .int "WORD_BYTES_machine" (4), .int "WORD_BYTES_readymachine" (4), .cls "Memory", .cls "Processor", .cls "Machine", .cls "ReadyMachine"] : List He.Fa) ++ ([.meth "Memory" "__init__", .meth "Memory" "find", .meth "Processor" "__init__", .meth "Processor" "word_number", .meth "Processor" "put", .meth "Processor" "go_astray", .meth "Machine" "step", .meth "Machine" "field_at", .meth "ReadyMachine" "__init__", .meth "ReadyMachine" "step", .meth "ReadyMachine" "field_at"] : List He.Fa)
def hts : List He.Tab := [(fun K => He.ga K "FORMS", ((["add", "sub", "sll", "slt", "sltu", "xor", "srl", "sra", "or", "and", "mul", "mulh", "mulhsu", "mulhu", "div", "divu", "rem", "remu", "addi", "slti"] : List Str) ++ (["sltiu", "xori", "ori", "andi", "slli", "srli", "srai", "lb", "lh", "lw", "lbu", "lhu", "jalr", "sb", "sh", "sw", "beq", "bne", "blt", "bge"] : List Str) ++ (["bltu", "bgeu", "lui", "auipc", "jal", "ecall", "ebreak", "fence"] : List Str))), (fun K => He.ga K "WRITERS", ["three", "number", "shift", "store", "branch", "upper", "jump", "whole"]), (fun K => He.ga K "READERS", ["three", "number", "shift", "store", "branch", "upper", "jump", "whole"]), (fun K => He.ga K "SIZES", ["lb", "lh", "lw", "lbu", "lhu", "sb", "sh", "sw"]), (fun K => He.ga K "DEEDS", ((["add", "sub", "sll", "slt", "sltu", "xor", "srl", "sra", "or", "and", "mul", "mulh", "mulhsu", "mulhu", "div", "divu", "rem", "remu", "addi", "slti"] : List Str) ++ (["sltiu", "xori", "ori", "andi", "slli", "srli", "srai", "lb", "lh", "lw", "lbu", "lhu", "sb", "sh", "sw", "beq", "bne", "blt", "bge", "bltu"] : List Str) ++ (["bgeu", "lui", "auipc", "jal", "jalr", "ecall", "ebreak", "fence"] : List Str)))]
def allF : List Fo := [.three, .number, .shift, .store, .branch, .upper, .jump, .whole]
theorem allF_mem (f : Fo) : f ∈ allF := by cases f <;> simp [allF]
def keyB (e : DictEntry) : Bool := match e.key with
  | .str s _ => (posOf nms s).isSome
  | _ => false
def keysB (K : PySem.W.Frag) (d : Addr) : Bool := match K.lookup d with
  | some ⟨_, _, .dict es _, _⟩ => es.toList.all fun e => keyB e && !e.refKey
  | _ => false
theorem keysB_ok {K : PySem.W.Frag} {d : Addr} (h : keysB K d = true) (s : Str) (hs : posOf nms s = none) : PySem.W.nsIn K d s = some none := by
  unfold keysB at h
  unfold PySem.W.nsIn
  split at h
  · rename_i a b es n sl hl
    rw [hl]
    dsimp only
    have h1 : ∀ e ∈ es.toList, e.key.isStr s = false := by
      intro e he
      obtain ⟨h2, _⟩ := He.ba (List.all_eq_true.mp h e he)
      unfold keyB at h2
      cases ek : e.key with
      | str z t =>
        rw [ek] at h2
        cases q : (Value.str z t).isStr s with
        | false => rfl
        | true =>
          have e1 : z = s := by simpa [Value.isStr] using q
          rw [e1] at h2
          have h2 : (posOf nms s).isSome = true := h2
          rw [hs] at h2
          cases h2
      | _ => rw [ek] at h2; cases h2
    have h3 : es.toList.find? (fun e => e.key.isStr s) = none := List.find?_eq_none.mpr fun e he => by rw [h1 e he]; exact Bool.false_ne_true
    have h4 : (es.toList.any fun e => e.refKey) = false := by
      rw [List.any_eq_false]
      intro e he
      obtain ⟨_, h5⟩ := He.ba (List.all_eq_true.mp h e he)
      rw [Bool.not_eq_true'] at h5
      rw [h5]; exact Bool.false_ne_true
    rw [h3]
    dsimp only
    rw [if_neg (by rw [h4]; exact Bool.false_ne_true)]
  · cases h
def tyB (K : PySem.W.Frag) (a : Addr) : Bool := match K.lookup a with
  | some ⟨.type c, none, _, _⟩ => decide (c = "tuple")
  | _ => false
theorem tyB_ok {K : PySem.W.Frag} {a : Addr} (h : tyB K a = true) : ∃ o, K.lookup a = some o ∧ o.cls = .type "tuple" ∧ o.dict = none := by
  unfold tyB at h
  split at h
  · rename_i c dt sl hl
    have e := of_decide_eq_true h
    subst e
    exact ⟨_, hl, rfl, rfl⟩
  · cases h
def byKeys : List Int := [51, 19, 3, 103, 35, 99, 55, 23, 111, 115, 15]
def byB (K : PySem.W.Frag) (d : Addr) : Bool := Kg.kintB K d (byKeys.map fun l => (l, (byl l).map fun o => V.str (nm o))) && (match K.lookup d with
  | some ⟨_, _, .dict es _, _⟩ => (List.range 128).all fun (l : Nat) => !(byl (l : Int)).isEmpty || (findBy Value.isInt es (l : Int)).isNone
  | _ => false)
theorem byl_keys : ∀ l : Nat, l < 128 → byl (l : Int) ≠ [] → (l : Int) ∈ byKeys := by decide +kernel
theorem byB_ok {K : PySem.W.Frag} {d : Addr} (h : byB K d = true) : ∃ es n, Kg.KInt K d es n ∧ ∀ l : Int, 0 ≤ l → l < 128 → (byl l = [] → findBy Value.isInt es l = none) ∧ (byl l ≠ [] → ∃ a, findBy Value.isInt es l = some (.ref a) ∧ ∀ H : Hp, SqT K H a ((byl l).map fun o => V.str (nm o))) := by
  unfold byB at h
  obtain ⟨h1, h2⟩ := He.ba h
  obtain ⟨es, n, kd, hq⟩ := Kg.kintB_ok h1
  rw [kd.at_] at h2
  refine ⟨es, n, kd, fun l l0 l1 => ?_⟩
  obtain ⟨m, rfl⟩ := Int.eq_ofNat_of_zero_le l0
  have hm : m < 128 := by omega
  refine ⟨fun hb => ?_, fun hb => ?_⟩
  · have h2 : ((List.range 128).all fun (l : Nat) => !(byl (l : Int)).isEmpty || (findBy Value.isInt es (l : Int)).isNone) = true := h2
    have h3 := List.all_eq_true.mp h2 m (List.mem_range.mpr hm)
    rw [hb] at h3
    cases e : findBy Value.isInt es (m : Int) with
    | none => rfl
    | some u =>
      have h3 : (findBy Value.isInt es (m : Int)).isNone = true := h3
      rw [e] at h3; cases h3
  · exact hq _ (List.mem_map.mpr ⟨(m : Int), byl_keys m hm hb, rfl⟩)
def bfB (K : PySem.W.Frag) (C : Addr) : Bool := PySem.W.excInitIn K C Bt.exB "Exception.__new__" && (PySem.W.excOver K C Bt.exB && ((match PySem.W.clsIn K C with
    | some cd => cd.hasDict
    | none => false) && (He.eqO (PySem.W.findIn K (.ref C) "__setattr__") (some (some (.builtin "object.__setattr__"))) && (He.eqO (PySem.W.findIn K (.ref C) "__getattribute__") (some (some (.builtin "BaseException.__getattribute__"))) &&
  (He.eqO (PySem.W.findIn K (.ref C) "__getattr__") (some none) && (He.eqO (PySem.W.findIn K (.ref C) "thing") (some none) && (He.eqO (PySem.W.findIn K (.ref C) "__init__") (some (some (.ref (He.ma K C "__init__")))) &&
  (decide (PySem.W.typeIn K (.ref (He.ma K C "__init__")) = some (.type "function")) && (PySem.W.keepIn K (.ref C) && (decide (PySem.W.subIn K (.ref C) (.type "BaseException") = some true) && (decide (PySem.W.typeIn K (.ref C) = some (.type "type")) && (PySem.W.hasDictIn K C && decide (PySem.W.exmOne K (.ref C) (.ref C) = some true)))))))))))))
def dds : List Nat := [27, 28, 29, 30, 31, 33, 34, 35]
def grB (K : PySem.W.Frag) (d : Addr) : Bool := Kg.kintB K d [] && (match K.lookup d with
  | some ⟨_, _, .dict es _, _⟩ => ([1, 2, 4] : List Int).all fun m => match findBy Value.isInt es m with
    | some (.int k _) => decide (k = grM0 m)
    | _ => false
  | _ => false)
theorem grB_ok {K : PySem.W.Frag} {d : Addr} (h : grB K d = true) : ∃ es n, Kg.KInt K d es n ∧ ∀ many : Int, many = 1 ∨ many = 2 ∨ many = 4 → ∃ t, findBy Value.isInt es many = some (.int (grM0 many) t) := by
  unfold grB at h
  obtain ⟨h1, h2⟩ := He.ba h
  obtain ⟨es, n, kd, _⟩ := Kg.kintB_ok h1
  rw [kd.at_] at h2
  refine ⟨es, n, kd, fun m hm => ?_⟩
  have h2 : (([1, 2, 4] : List Int).all fun m => match findBy Value.isInt es m with
    | some (.int k _) => decide (k = grM0 m)
    | _ => false) = true := h2
  have h3 := List.all_eq_true.mp h2 m (by rcases hm with rfl | rfl | rfl <;> simp)
  split at h3
  · rename_i k t e
    have e4 := of_decide_eq_true h3
    rw [e4] at e
    exact ⟨t, e⟩
  · cases h3
def mkB (K : PySem.W.Frag) (c : Str) : Bool := PySem.W.makesIn K (He.ga K c) && PySem.W.keepIn K (.ref (He.ga K c))
def cfB (K : PySem.W.Frag) (C : Addr) (m : Str) : Bool := PySem.W.readsIn K C (.type "type") && (He.eqO (PySem.W.specialIn K (.ref C) "__getattribute__") (some (some (.builtin "type.__getattribute__"))) && (match PySem.W.findCls K (.ref C) (.type "type") m with
  | some (.val (.ref f)) => He.eqO (PySem.W.findIn K (.ref C) m) (some (some (.ref f)))
  | _ => false))
theorem cfB_ok {K : PySem.W.Frag} {C : Addr} {m : Str} (h : cfB K C m = true) : Mh.Cf K C m := by
  unfold cfB at h
  obtain ⟨h1, h⟩ := He.ba h
  obtain ⟨h2, h⟩ := He.ba h
  split at h
  · rename_i f e
    exact ⟨.type "type", f, ⟨h1, He.eqO_ok h2⟩, He.eqO_ok h, e⟩
  · cases h
def hex (K : PySem.W.Frag) : Bool := (((List.range 48).all fun o => Kg.entA K (He.ga K "FORMS") (nm o) [.str (foS (fo o)), .int (la o), .int (pa o), .int (fi o)]) && ((keysB K (He.ga K "FORMS")) && ((He.valsB K (He.ga K "WRITERS") (allF.map fun f => (foS f, He.Dv.glo (wnm f)))) && ((He.valsB K (He.ga K "READERS") (allF.map fun f => (foS f, He.Dv.glo (rnm f)))) && ((byB K (He.ga K "BY_LAST_BITS")) && ((bfB K (He.ga K "BadForm")) && ((He.valsB K (He.ga K "DEEDS") (dds.map fun o => (nm o, He.Dv.glo (dnm o)))) && ((mkB K "Memory") && ((mkB K "Machine") && ((mkB K "ReadyMachine") && ((memF.all fun f => He.eqO (PySem.W.findIn K (.ref (He.ga K "Memory")) f) (some none)) && ((macF.all fun f => He.eqO (PySem.W.findIn K (.ref (He.ga K "Machine")) f) (some none)) && ((macF.all fun f => He.eqO (PySem.W.findIn K (.ref (He.ga K "ReadyMachine")) f) (some none)) && (((["Processor", "Machine", "ReadyMachine"] : List Str).all fun c => (["put", "word_number", "go_astray"] : List Str).all fun m => He.eqO (PySem.W.findIn K (.ref (He.ga K c)) m) (some (some (.ref (He.ma K (He.ga K "Processor") m))))) && (((["Processor", "Machine"] : List Str).all fun c => He.eqO (PySem.W.findIn K (.ref (He.ga K c)) "__init__") (some (some (.ref (He.ma K (He.ga K "Processor") "__init__"))))) && ((cfB K (He.ga K "Processor") "__init__") && ((decide (He.ga K "Machine" ≠ He.ga K "ReadyMachine")) && ((dds.all fun o => Kg.entA K (He.ga K "SIZES") (nm o) [.int (szM o), .bl (sgM o)]) && ((grB K (He.ga K "GREATEST_OF")) && true)))))))))))))))))))
abbrev hk : PySem.W.Hook := Hy.hook 5 hfa hfn hts hex
def hob (s : PySem.W.SharedT) : He.AlX := Hy.look 5 hfa hfn hts hex (HandSHeadRun.getT s)
theorem hob_eq (s : PySem.W.SharedT) : hob s = hk.obs s.abs := Hy.look_eq (HandSHeadRun.getT_eq s)
def hloose : List Str := (["_wall", "ImageError", "BadForm", "GREATEST", "HALF", "word_of", "signed", "_add", "_sub", "_mul", "_and", "_or", "_xor", "_shl", "_shr", "_sar", "_lts", "_ltu", "_eq", "_divs"] : List Str) ++ (["_rems", "_divu", "_remu", "KINDS_OF_WORK", "apply", "is_number", "FORMS", "BY_LAST_BITS", "MOST_REGISTER", "HALF_NUMBER", "HALF_BRANCH", "HALF_JUMP", "encode", "_are_registers", "_is_distance", "_write_three", "_write_number", "_write_store", "_write_branch", "_write_upper"] : List Str) ++ (["_write_jump", "_write_whole", "decode", "_with_sign", "_read_three", "_read_number", "_read_store", "_read_branch", "_read_upper", "_read_jump", "_read_whole", "WRITERS", "READERS", "ARGS", "DEED", "KINDS", "made_of", "_mulh", "_mulhsu", "_mulhu"] : List Str) ++ (["HIGH_PARTS", "is_branch_taken", "BYTES_instructiondeeds", "SIZES", "GREATEST_OF", "do_instruction", "_three", "_number", "_load", "_store", "_find", "_branch", "_lui", "_auipc", "_jal", "_jalr", "_ecall", "_take", "_ebreak", "_fence"] : List Str) ++ (["DEEDS", "BYTES_linking", "STEP", "data_start", "stack_start", "_behind", "BYTES_memory", "Memory", "BYTES_processor", "REGISTERS", "Processor", "WORD_BYTES_machine", "Machine", "WORD_BYTES_readymachine", "ReadyMachine", "_law_cell_at", "_law_draw", "_law_number", "_law_next", "_law_pick"] : List Str) ++ (["_law_image"] : List Str)
theorem hrunFl (w : World) : Hy.Shows (PySem.W.OpenLaw.row PySem.Challenge.rw_trueimage_k82_memory_of_the_machine) 9000 (w.withFollow "special-get-raises" false) (fun s => HandSHeadRun.looksF (PySem.W.OpenLaw.row PySem.Challenge.rw_trueimage_k82_memory_of_the_machine).prog (PySem.W.boot_heap (w.withFollow "special-get-raises" false).params) s.abs) true := by
  intro os
  kernel_rfl
theorem hrunFs (w : World) : Hy.Shows (PySem.W.OpenLaw.row PySem.Challenge.rw_trueimage_k82_memory_of_the_machine) 9000 (w.withFollow "special-get-raises" false) (fun s => HandSHeadRun.seenQ (PySem.W.view (PySem.W.OpenLaw.row PySem.Challenge.rw_trueimage_k82_memory_of_the_machine).prog [113]) hloose (PySem.importedModules (PySem.W.OpenLaw.row PySem.Challenge.rw_trueimage_k82_memory_of_the_machine).prog.main.body) (fun s => PySem.W.xlAt (PySem.W.view (PySem.W.OpenLaw.row PySem.Challenge.rw_trueimage_k82_memory_of_the_machine).prog [113]) [] s && PySem.W.recOk (PySem.W.OpenLaw.row PySem.Challenge.rw_trueimage_k82_memory_of_the_machine).toRowW.records s) s.abs) (PySem.W.openGood (PySem.W.view (PySem.W.OpenLaw.row PySem.Challenge.rw_trueimage_k82_memory_of_the_machine).prog [113]) hloose) := by
  intro os
  kernel_rfl
theorem hrunFo (w : World) : Hy.Shows (PySem.W.OpenLaw.row PySem.Challenge.rw_trueimage_k82_memory_of_the_machine) 9000 (w.withFollow "special-get-raises" false) (fun s => He.obsT hfa hfn hts (Hy.part (HandSHeadRun.getT s) 5)) (He.valT hfn hts (w.withFollow "special-get-raises" false)) := by
  intro os
  kernel_rfl
theorem hrunFx (w : World) : Hy.Shows (PySem.W.OpenLaw.row PySem.Challenge.rw_trueimage_k82_memory_of_the_machine) 9000 (w.withFollow "special-get-raises" false) (fun s => hex (Hy.part (HandSHeadRun.getT s) 5)) true := by
  intro os
  kernel_rfl
theorem hrunF (w : World) : HandSHeadRun.RunEq (PySem.W.OpenLaw.row PySem.Challenge.rw_trueimage_k82_memory_of_the_machine) (PySem.W.view (PySem.W.OpenLaw.row PySem.Challenge.rw_trueimage_k82_memory_of_the_machine).prog [113]) hk hob 9000 hloose (w.withFollow "special-get-raises" false) := (hrunFl w).both ((hrunFs w).both ((hrunFo w).both (hrunFx w)))
theorem hrunTl (w : World) : Hy.Shows (PySem.W.OpenLaw.row PySem.Challenge.rw_trueimage_k82_memory_of_the_machine) 9000 (w.withFollow "special-get-raises" true) (fun s => HandSHeadRun.looksF (PySem.W.OpenLaw.row PySem.Challenge.rw_trueimage_k82_memory_of_the_machine).prog (PySem.W.boot_heap (w.withFollow "special-get-raises" true).params) s.abs) true := by
  intro os
  kernel_rfl
theorem hrunTs (w : World) : Hy.Shows (PySem.W.OpenLaw.row PySem.Challenge.rw_trueimage_k82_memory_of_the_machine) 9000 (w.withFollow "special-get-raises" true) (fun s => HandSHeadRun.seenQ (PySem.W.view (PySem.W.OpenLaw.row PySem.Challenge.rw_trueimage_k82_memory_of_the_machine).prog [113]) hloose (PySem.importedModules (PySem.W.OpenLaw.row PySem.Challenge.rw_trueimage_k82_memory_of_the_machine).prog.main.body) (fun s => PySem.W.xlAt (PySem.W.view (PySem.W.OpenLaw.row PySem.Challenge.rw_trueimage_k82_memory_of_the_machine).prog [113]) [] s && PySem.W.recOk (PySem.W.OpenLaw.row PySem.Challenge.rw_trueimage_k82_memory_of_the_machine).toRowW.records s) s.abs) (PySem.W.openGood (PySem.W.view (PySem.W.OpenLaw.row PySem.Challenge.rw_trueimage_k82_memory_of_the_machine).prog [113]) hloose) := by
  intro os
  kernel_rfl
theorem hrunTo (w : World) : Hy.Shows (PySem.W.OpenLaw.row PySem.Challenge.rw_trueimage_k82_memory_of_the_machine) 9000 (w.withFollow "special-get-raises" true) (fun s => He.obsT hfa hfn hts (Hy.part (HandSHeadRun.getT s) 5)) (He.valT hfn hts (w.withFollow "special-get-raises" true)) := by
  intro os
  kernel_rfl
theorem hrunTx (w : World) : Hy.Shows (PySem.W.OpenLaw.row PySem.Challenge.rw_trueimage_k82_memory_of_the_machine) 9000 (w.withFollow "special-get-raises" true) (fun s => hex (Hy.part (HandSHeadRun.getT s) 5)) true := by
  intro os
  kernel_rfl
theorem hrunT (w : World) : HandSHeadRun.RunEq (PySem.W.OpenLaw.row PySem.Challenge.rw_trueimage_k82_memory_of_the_machine) (PySem.W.view (PySem.W.OpenLaw.row PySem.Challenge.rw_trueimage_k82_memory_of_the_machine).prog [113]) hk hob 9000 hloose (w.withFollow "special-get-raises" true) := (hrunTl w).both ((hrunTs w).both ((hrunTo w).both (hrunTx w)))
theorem hrun (w : World) : HandSHeadRun.RunEq (PySem.W.OpenLaw.row PySem.Challenge.rw_trueimage_k82_memory_of_the_machine) (PySem.W.view (PySem.W.OpenLaw.row PySem.Challenge.rw_trueimage_k82_memory_of_the_machine).prog [113]) hk hob 9000 hloose w := PySem.W.byRow2 "special-get-raises" (P := fun w => HandSHeadRun.RunEq (PySem.W.OpenLaw.row PySem.Challenge.rw_trueimage_k82_memory_of_the_machine) (PySem.W.view (PySem.W.OpenLaw.row PySem.Challenge.rw_trueimage_k82_memory_of_the_machine).prog [113]) hk hob 9000 hloose w) hrunF hrunT w
end K82E


namespace K82
open PySem PyProof.Rows L2 My Ru I6
open Builtin (bitAnd bitOr)
section
variable {P : Program} {w : World} {K : PySem.W.Frag} {mg : Str → Option Value} {base : Heap}
theorem sc_is_number : FnScope ["thing", "least", "most"] ["thing", "least", "most"] (defScope s_is_number) := ⟨rfl, rfl, rfl, by decide +kernel, rfl, by decide +kernel, by decide +kernel⟩
theorem g_is_number (T : Txt K mg w)  : Gd P w K mg base CX0 1 "is_number" ["thing", "least", "most"] (sp_is_number K) := by
  have sc := sc_is_number
  refine T.d_is_number.ok sc len3 (fun _ _ _ _ _ _ us hl => match us, hl with | [_, _, _], _ => rfl) (fun f cdv A outer s H vs Q E hr h => ?_)
  obtain ⟨x0, x1, x2, rfl, h⟩ := h
  obtain ⟨n, a, b, rfl, rfl, rfl, h⟩ := h
  refine ⟨_, (pss_one (ps_ret (pe_and (pe_callB call_isi (by rfl) T.n_isinstance (by decide +kernel) (pa_cons (pv 0) (pa_cons (pe_bltn (v := .ty "int") (u := .type "int") (by rfl) T.n_int (by decide +kernel) rfl) pa_nil))) (pe_and (pe_not (pe_callB call_isi (by rfl) T.n_isinstance (by decide +kernel) (pa_cons (pv 0) (pa_cons (pe_bltn (v := .ty "bool") (u := .type "bool") (by rfl) T.n_bool (by decide +kernel) rfl) pa_nil)))) (pe_one (pe_chain op_le op_le (pv 1) (pv 0) (pv 2))))))), ?_⟩
  cases n with
  | none =>
    refine ⟨_, rfl, _, _, .type "NoneType", .type "int", false, rfl, .ty "int", .base .non, kit_ty (by decide +kernel), false, rfl, ?_⟩
    refine if_false_of rfl ?_
    exact h
  | some n =>
    refine ⟨_, rfl, _, _, .type "int", .type "int", true, rfl, .ty "int", .base (.int _), kit_ty (by decide +kernel), true, rfl, ?_⟩
    refine if_true_of rfl ?_
    refine ⟨_, rfl, _, _, .type "int", .type "bool", false, rfl, .ty "bool", .base (.int _), kit_ty (by decide +kernel), false, rfl, true, rfl, ?_⟩
    refine if_true_of rfl ?_
    refine ⟨_, rfl, _, rfl, _, _, rfl, rfl, decide (a ≤ n), rfl, ?_⟩
    unfold isN at h
    dsimp only at h
    by_cases c : a ≤ n
    · rw [decide_eq_true c] at h ⊢
      refine if_true_of rfl ?_
      refine ⟨_, rfl, _, _, rfl, rfl, ?_⟩
      rw [Bool.true_and] at h
      exact h
    · rw [decide_eq_false c] at h ⊢
      refine if_false_of rfl ?_
      exact h
theorem sc__are_registers : FnScope ["one", "other", "third", "thing"] ["one", "other", "third"] (defScope s__are_registers) := ⟨rfl, rfl, rfl, by decide +kernel, rfl, by decide +kernel, by decide +kernel⟩
theorem g__are_registers (T : Txt K mg w) (G_is_number : Gd P w K mg base CX0 1 "is_number" ["thing", "least", "most"] (sp_is_number K)) : Gd P w K mg base CX0 2 "_are_registers" ["one", "other", "third"] (sp__are_registers K) := by
  have sc := sc__are_registers
  refine T.d__are_registers.ok sc len3 (fun _ _ _ _ _ _ us hl => match us, hl with | [_, _, _], _ => rfl) (fun f cdv A outer s H vs Q E hr h => ?_)
  obtain ⟨x0, x1, x2, rfl, h⟩ := h
  obtain ⟨a, b, c, rfl, rfl, rfl, h⟩ := h
  refine ⟨_, (pss_one (ps_ret (pe_callB (cr_all rfl) (by rfl) T.n_all (by decide +kernel) (pa_cons (pe_lc (own := [("thing", 3)]) (g := gName 3) (by rfl) sc.nd (pi_tup (pe_tup (pa_cons (pv 0) (pa_cons (pv 1) (pa_cons (pv 2) pa_nil))))) (blkOk_by (own := [("thing", 3)]) (N := ["one", "other", "third", "thing"]) (sc := defScope s__are_registers) (by decide +kernel)) (fun _ _ _ _ _ => (pg_name (i := 3) sc.nd rfl (Or.inl rfl))) (fun _ _ _ _ _ => pts_nil) (fun _ _ _ _ _ => (pe_g G_is_number (hr.mono (by omega)) pass0 (pa_cons (pv 3) (pa_cons pe_int (pa_cons (pe_gint T.c_MOST_REGISTER) pa_nil)))))) pa_nil)))), ?_⟩
  refine ⟨_, rfl, _, rfl, _, rfl, (by show 3 ≤ sizeLine; decide), fun t ht => ⟨t, rfl, ⟨_, SqT.of upd_same⟩, fun D hD => ?_⟩⟩
  have htD : t ≠ D := fun z => by rw [z, upd_same] at hD; cases hD
  refine lc_tup (a := t) (xs := [vO a, vO b, vO c]) (fun i H' => Same (upd H t (.tup [vO a, vO b, vO c])) H' ∧ H' D = some (.lst (([a, b, c].take i).map fun x => V.bl (isN x 0 31)))) ⟨same_new hD, upd_same⟩ (fun i H' _ p => SqT.of (p.1 _ _ upd_same)) (fun i x H' hx p => ?_) (fun H' p => ?_)
  · have hn : ∃ n : O, x = vO n ∧ [a, b, c].take (i + 1) = [a, b, c].take i ++ [n] := by
      match i, hx with
      | 0, hx => injection hx with hx; exact ⟨a, hx.symm, rfl⟩
      | 1, hx => injection hx with hx; exact ⟨b, hx.symm, rfl⟩
      | 2, hx => injection hx with hx; exact ⟨c, hx.symm, rfl⟩
      | i + 3, hx => simp at hx
    have hi : i < 3 := by
      by_cases z : i < 3
      · exact z
      · rw [List.getElem?_eq_none (by show 3 ≤ i; omega)] at hx; cases hx
    obtain ⟨n, rfl, hn⟩ := hn
    refine ⟨rfl, ?_⟩
    dsimp only [tYes]
    rw [if_pos rfl]
    refine ⟨_, rfl, _, _, _, rfl, n, 0, 31, rfl, rfl, rfl, ?_⟩
    refine ⟨_, p.2, (by rw [List.length_map, List.length_take]; exact tup_lt (by omega)), fun x o e => ?_, ?_⟩
    · by_cases z : x = D
      · rw [z, upd_ne htD.symm] at e
        rw [upd_ne htD.symm] at hD
        rw [hD] at e; cases e
      · rw [upd_ne z]; exact p.1 _ _ e
    · rw [upd_same, hn, List.map_append]; rfl
  · refine ⟨D, [isN a 0 31, isN b 0 31, isN c 0 31], rfl, SqL.of (by rw [p.2]; rfl), ?_⟩
    have e : ([isN a 0 31, isN b 0 31, isN c 0 31].all id) = (isN a 0 31 && (isN b 0 31 && isN c 0 31)) := by
      cases isN a 0 31 <;> cases isN b 0 31 <;> cases isN c 0 31 <;> rfl
    show Q (V.bl ([isN a 0 31, isN b 0 31, isN c 0 31].all id)) H'
    rw [e]
    exact h _ (Same.tr (same_new ht) p.1)
theorem sc__is_distance : FnScope ["thing", "half"] ["thing", "half"] (defScope s__is_distance) := ⟨rfl, rfl, rfl, by decide +kernel, rfl, by decide +kernel, by decide +kernel⟩
theorem g__is_distance (T : Txt K mg w) (G_is_number : Gd P w K mg base CX0 1 "is_number" ["thing", "least", "most"] (sp_is_number K)) : Gd P w K mg base CX0 2 "_is_distance" ["thing", "half"] (sp__is_distance K) := by
  have sc := sc__is_distance
  refine T.d__is_distance.ok sc len2 (fun _ _ _ _ _ _ us hl => match us, hl with | [_, _], _ => rfl) (fun f cdv A outer s H vs Q E hr h => ?_)
  obtain ⟨x0, x1, rfl, h⟩ := h
  obtain ⟨d, g, rfl, rfl, h⟩ := h
  refine ⟨_, (pss_one (ps_ret (pe_and (pe_g G_is_number (hr.mono (by omega)) pass0 (pa_cons (pv 0) (pa_cons (pe_un un_neg (pv 1)) (pa_cons (pe_op op_sub (pv 1) pe_int) pa_nil)))) (pe_one (pe_cmpR op_eq (pe_op op_and (pv 0) pe_int) pe_int (nomark _)))))), ?_⟩
  refine ⟨_, rfl, _, rfl, _, rfl, _, rfl, _, _, rfl, rfl, ?_⟩
  refine ⟨_, _, _, rfl, _, _, _, rfl, rfl, rfl, ?_⟩
  refine ⟨_, rfl, ?_⟩
  unfold dist at h
  cases e : isN d (-g) (g - 1) with
  | false =>
    rw [e] at h
    exact if_false_of rfl h
  | true =>
    rw [e, Bool.true_and] at h
    refine if_true_of rfl ?_
    cases d with
    | none => cases e
    | some d =>
      refine ⟨_, rfl, _, _, rfl, rfl, rfl, ?_⟩
      have e2 : decide (V.int (bitAnd d 1) = V.int 0) = decide (bitAnd d 1 = 0) := by
        by_cases q : bitAnd d 1 = 0
        · rw [decide_eq_true q, q]; rfl
        · rw [decide_eq_false q, decide_eq_false (fun z => q (V.int.inj z))]
      show Q (V.bl (decide (V.int (bitAnd d 1) = V.int 0))) H
      rw [e2]
      exact h
end
end K82

namespace K82
open PySem PyProof.Rows L2 My Ru I6
open Builtin (bitAnd bitOr)
theorem shl_ok {i j : Int} (h0 : 0 ≤ j) (h1 : j ≤ 1000) (h2 : -4294967296 ≤ i ∧ i ≤ 4294967296) : 0 ≤ j ∧ j ≤ 1000000 ∧ i.natAbs < 2 ^ 64 := by
  refine ⟨h0, by omega, ?_⟩
  have : (2 : Nat) ^ 64 = 18446744073709551616 := by decide
  omega
theorem and_lt {x m : Int} (h0 : 0 ≤ m) (h1 : m < 4294967296) : -4294967296 ≤ bitAnd x m ∧ bitAnd x m ≤ 4294967296 := by
  have := bitAnd_range x h0
  omega
theorem n0 : isN (some 0) 0 31 = true := by decide
theorem okn (x y z : O) : ok .number x y z = ((isN x 0 31 && (isN y 0 31 && isN (some 0) 0 31)) && isN z (-2048) 2047) := by
  rw [n0, Bool.and_true]; rfl
theorem oks (x y z : O) : ok .store x y z = ((isN x 0 31 && (isN y 0 31 && isN (some 0) 0 31)) && isN z (-2048) 2047) := by
  rw [n0, Bool.and_true]; rfl
theorem okb (x y z : O) : ok .branch x y z = ((isN x 0 31 && (isN y 0 31 && isN (some 0) 0 31)) && dist z 4096) := by
  rw [n0, Bool.and_true]; rfl
theorem oku (x y z : O) : ok .upper x y z = ((isN x 0 31 && (isN (some 0) 0 31 && isN (some 0) 0 31)) && (isN y 0 1048575 && isN z 0 0)) := by
  rw [n0, Bool.and_true, Bool.and_true]; rfl
theorem okj (x y z : O) : ok .jump x y z = ((isN x 0 31 && (isN (some 0) 0 31 && isN (some 0) 0 31)) && (dist y 1048576 && isN z 0 0)) := by
  rw [n0, Bool.and_true, Bool.and_true]; rfl
theorem wr_no {f : Fo} {a b c : O} (h : ok f a b c = false) : wrO f a b c = .non := by
  unfold wrO
  rw [h]; rfl
theorem wr_yes {f : Fo} {a b c : Int} (h : ok f (some a) (some b) (some c) = true) : wrO f (some a) (some b) (some c) = .int (wr f a b c) := by
  unfold wrO
  rw [if_pos h]; rfl
section
variable {P : Program} {w : World} {K : PySem.W.Frag} {mg : Str → Option Value} {base : Heap}
theorem sc__write_three : FnScope ["one", "other", "third"] ["one", "other", "third"] (defScope s__write_three) := ⟨rfl, rfl, rfl, by decide +kernel, rfl, by decide +kernel, by decide +kernel⟩
theorem g__write_three (T : Txt K mg w) (G__are_registers : Gd P w K mg base CX0 2 "_are_registers" ["one", "other", "third"] (sp__are_registers K)) : Gd P w K mg base CX0 3 "_write_three" ["one", "other", "third"] (sp__write_three K) := by
  have sc := sc__write_three
  refine T.d__write_three.ok sc len3 (fun _ _ _ _ _ _ us hl => match us, hl with | [_, _, _], _ => rfl) (fun f cdv A outer s H vs Q E hr h => ?_)
  obtain ⟨x0, x1, x2, rfl, h⟩ := h
  obtain ⟨a, b, c, rfl, rfl, rfl, h⟩ := h
  refine ⟨_, (pss_one (ps_ret (pe_ifExp (pt_val (pe_g G__are_registers (hr.mono (by omega)) pass0 (pa_cons (pv 0) (pa_cons (pv 1) (pa_cons (pv 2) pa_nil))))) (pe_op op_or (pe_op op_or (pe_op op_shl (pv 2) pe_int) (pe_op op_shl (pv 1) pe_int)) (pe_op op_shl (pv 0) pe_int)) pe_non))), ?_⟩
  refine ⟨_, rfl, _, rfl, _, rfl, _, _, _, rfl, a, b, c, rfl, rfl, rfl, fun H1 s1 => ⟨_, rfl, ?_⟩⟩
  have h1 := h H1 s1
  cases e : (isN a 0 31 && (isN b 0 31 && isN c 0 31)) with
  | false =>
    rw [wr_no (f := .three) e] at h1
    exact if_false_of rfl h1
  | true =>
    obtain ⟨a, b, c, rfl, rfl, rfl, ha, hb, hc⟩ := of_ok (f := .three) e
    rw [wr_yes (f := .three) e] at h1
    refine if_true_of rfl ?_
    refine ⟨_, rfl, _, _, rfl, rfl, shl_ok (by decide) (by decide) (by omega), _, rfl, _, _, rfl, rfl, shl_ok (by decide) (by decide) (by omega), _, _, rfl, rfl, _, rfl, _, _, rfl, rfl, shl_ok (by decide) (by decide) (by omega), _, _, rfl, rfl, ?_⟩
    exact h1
theorem sc__write_number : FnScope ["one", "other", "number"] ["one", "other", "number"] (defScope s__write_number) := ⟨rfl, rfl, rfl, by decide +kernel, rfl, by decide +kernel, by decide +kernel⟩
theorem g__write_number (T : Txt K mg w) (G__are_registers : Gd P w K mg base CX0 2 "_are_registers" ["one", "other", "third"] (sp__are_registers K)) (G_is_number : Gd P w K mg base CX0 1 "is_number" ["thing", "least", "most"] (sp_is_number K)) : Gd P w K mg base CX0 3 "_write_number" ["one", "other", "number"] (sp__write_number K) := by
  have sc := sc__write_number
  refine T.d__write_number.ok sc len3 (fun _ _ _ _ _ _ us hl => match us, hl with | [_, _, _], _ => rfl) (fun f cdv A outer s H vs Q E hr h => ?_)
  obtain ⟨x0, x1, x2, rfl, h⟩ := h
  obtain ⟨a, b, c, rfl, rfl, rfl, h⟩ := h
  refine ⟨_, (pss_cons (ps_if (PW.pt (pw_or (pt_not (pt_val (pe_g G__are_registers (hr.mono (by omega)) pass0 (pa_cons (pv 0) (pa_cons (pv 1) (pa_cons pe_int pa_nil)))))) (pw_or1 (pt_not (pt_val (pe_g G_is_number (hr.mono (by omega)) pass0 (pa_cons (pv 2) (pa_cons (pe_un un_neg (pe_gint T.c_HALF_NUMBER)) (pa_cons (pe_op op_sub (pe_gint T.c_HALF_NUMBER) pe_int) pa_nil))))))))) (pss_one (ps_ret pe_non)) pss_nil)
      (pss_one (ps_ret (pe_op op_or (pe_op op_or (pe_op op_shl (pe_op op_and (pv 2) pe_int) pe_int) (pe_op op_shl (pv 1) pe_int)) (pe_op op_shl (pv 0) pe_int))))), ?_⟩
  refine ⟨_, rfl, _, rfl, _, _, _, rfl, a, b, some 0, rfl, rfl, rfl, fun H1 s1 => ⟨_, rfl, ?_⟩⟩
  have h1 := h H1 s1
  have ek := okn a b c
  cases e1 : (isN a 0 31 && (isN b 0 31 && isN (some 0) 0 31)) with
  | false =>
    rw [e1, Bool.false_and] at ek
    rw [wr_no ek] at h1
    exact if_true_of rfl h1
  | true =>
    rw [e1, Bool.true_and] at ek
    refine if_false_of rfl ?_
    refine ⟨_, rfl, _, rfl, _, _, rfl, rfl, _, _, _, rfl, c, -2048, 2047, rfl, rfl, rfl, _, rfl, ?_⟩
    cases e2 : isN c (-2048) 2047 with
    | false =>
      rw [e2] at ek
      rw [wr_no ek] at h1
      exact if_true_of rfl h1
    | true =>
      rw [e2] at ek
      obtain ⟨a, b, c, rfl, rfl, rfl, ha, hb, hc⟩ := of_ok ek
      rw [wr_yes ek] at h1
      refine if_false_of rfl ?_
      refine ⟨_, rfl, _, _, rfl, rfl, _, _, rfl, rfl, shl_ok (by decide) (by decide) (and_lt (by decide) (by decide)), _, rfl, _, _, rfl, rfl, shl_ok (by decide) (by decide) (by omega), _, _, rfl, rfl, _, rfl, _, _, rfl, rfl, shl_ok (by decide) (by decide) (by omega), _, _, rfl, rfl, ?_⟩
      exact h1
theorem sc__write_store : FnScope ["one", "other", "number"] ["one", "other", "number"] (defScope s__write_store) := ⟨rfl, rfl, rfl, by decide +kernel, rfl, by decide +kernel, by decide +kernel⟩
theorem g__write_store (T : Txt K mg w) (G__are_registers : Gd P w K mg base CX0 2 "_are_registers" ["one", "other", "third"] (sp__are_registers K)) (G_is_number : Gd P w K mg base CX0 1 "is_number" ["thing", "least", "most"] (sp_is_number K)) : Gd P w K mg base CX0 3 "_write_store" ["one", "other", "number"] (sp__write_store K) := by
  have sc := sc__write_store
  refine T.d__write_store.ok sc len3 (fun _ _ _ _ _ _ us hl => match us, hl with | [_, _, _], _ => rfl) (fun f cdv A outer s H vs Q E hr h => ?_)
  obtain ⟨x0, x1, x2, rfl, h⟩ := h
  obtain ⟨a, b, c, rfl, rfl, rfl, h⟩ := h
  refine ⟨_, (pss_cons (ps_if (PW.pt (pw_or (pt_not (pt_val (pe_g G__are_registers (hr.mono (by omega)) pass0 (pa_cons (pv 0) (pa_cons (pv 1) (pa_cons pe_int pa_nil)))))) (pw_or1 (pt_not (pt_val (pe_g G_is_number (hr.mono (by omega)) pass0 (pa_cons (pv 2) (pa_cons (pe_un un_neg (pe_gint T.c_HALF_NUMBER)) (pa_cons (pe_op op_sub (pe_gint T.c_HALF_NUMBER) pe_int) pa_nil))))))))) (pss_one (ps_ret pe_non)) pss_nil)
      (pss_one (ps_ret (pe_op op_or (pe_op op_or (pe_op op_or (pe_op op_shl (pe_op op_and (pe_op op_shr (pv 2) pe_int) pe_int) pe_int) (pe_op op_shl (pv 1) pe_int)) (pe_op op_shl (pv 0) pe_int)) (pe_op op_shl (pe_op op_and (pv 2) pe_int) pe_int))))), ?_⟩
  refine ⟨_, rfl, _, rfl, _, _, _, rfl, a, b, some 0, rfl, rfl, rfl, fun H1 s1 => ⟨_, rfl, ?_⟩⟩
  have h1 := h H1 s1
  have ek := oks a b c
  cases e1 : (isN a 0 31 && (isN b 0 31 && isN (some 0) 0 31)) with
  | false =>
    rw [e1, Bool.false_and] at ek
    rw [wr_no ek] at h1
    exact if_true_of rfl h1
  | true =>
    rw [e1, Bool.true_and] at ek
    refine if_false_of rfl ?_
    refine ⟨_, rfl, _, rfl, _, _, rfl, rfl, _, _, _, rfl, c, -2048, 2047, rfl, rfl, rfl, _, rfl, ?_⟩
    cases e2 : isN c (-2048) 2047 with
    | false =>
      rw [e2] at ek
      rw [wr_no ek] at h1
      exact if_true_of rfl h1
    | true =>
      rw [e2] at ek
      obtain ⟨a, b, c, rfl, rfl, rfl, ha, hb, hc⟩ := of_ok ek
      rw [wr_yes ek] at h1
      refine if_false_of rfl ?_
      refine ⟨_, rfl, _, _, rfl, rfl, (by dsimp only; decide), _, _, rfl, rfl, _, _, rfl, rfl, shl_ok (by decide) (by decide) (and_lt (by decide) (by decide)), ?_⟩
      refine ⟨_, rfl, _, _, rfl, rfl, shl_ok (by decide) (by decide) (by omega), _, _, rfl, rfl, ?_⟩
      refine ⟨_, rfl, _, _, rfl, rfl, shl_ok (by decide) (by decide) (by omega), _, _, rfl, rfl, ?_⟩
      refine ⟨_, rfl, _, _, rfl, rfl, _, _, rfl, rfl, shl_ok (by decide) (by decide) (and_lt (by decide) (by decide)), _, _, rfl, rfl, ?_⟩
      exact h1
theorem sc__write_branch : FnScope ["one", "other", "distance", "high"] ["one", "other", "distance"] (defScope s__write_branch) := ⟨rfl, rfl, rfl, by decide +kernel, rfl, by decide +kernel, by decide +kernel⟩
theorem g__write_branch (T : Txt K mg w) (G__are_registers : Gd P w K mg base CX0 2 "_are_registers" ["one", "other", "third"] (sp__are_registers K)) (G__is_distance : Gd P w K mg base CX0 2 "_is_distance" ["thing", "half"] (sp__is_distance K)) : Gd P w K mg base CX0 3 "_write_branch" ["one", "other", "distance"] (sp__write_branch K) := by
  have sc := sc__write_branch
  refine T.d__write_branch.ok sc len3 (fun _ _ _ _ _ _ us hl => match us, hl with | [_, _, _], _ => rfl) (fun f cdv A outer s H vs Q E hr h => ?_)
  obtain ⟨x0, x1, x2, rfl, h⟩ := h
  obtain ⟨a, b, c, rfl, rfl, rfl, h⟩ := h
  refine ⟨_, (pss_cons (ps_if (PW.pt (pw_or (pt_not (pt_val (pe_g G__are_registers (hr.mono (by omega)) pass0 (pa_cons (pv 0) (pa_cons (pv 1) (pa_cons pe_int pa_nil)))))) (pw_or1 (pt_not (pt_val (pe_g G__is_distance (hr.mono (by omega)) pass0 (pa_cons (pv 2) (pa_cons (pe_gint T.c_HALF_BRANCH) pa_nil)))))))) (pss_one (ps_ret pe_non)) pss_nil)
      (pss_cons (ps_set (i := 3) sc.nd rfl (Or.inl rfl) (pe_op op_or (pe_op op_shl (pe_op op_and (pe_op op_shr (pv 2) pe_int) pe_int) pe_int) (pe_op op_shl (pe_op op_and (pe_op op_shr (pv 2) pe_int) pe_int) pe_int)))
      (pss_one (ps_ret (pe_op op_or (pe_op op_or (pe_op op_or (pe_op op_or (pv 3) (pe_op op_shl (pv 1) pe_int)) (pe_op op_shl (pv 0) pe_int)) (pe_op op_shl (pe_op op_and (pe_op op_shr (pv 2) pe_int) pe_int) pe_int)) (pe_op op_shl (pe_op op_and (pe_op op_shr (pv 2) pe_int) pe_int) pe_int)))))), ?_⟩
  refine ⟨_, rfl, _, rfl, _, _, _, rfl, a, b, some 0, rfl, rfl, rfl, fun H1 s1 => ⟨_, rfl, ?_⟩⟩
  have h1 := h H1 s1
  have ek := okb a b c
  cases e1 : (isN a 0 31 && (isN b 0 31 && isN (some 0) 0 31)) with
  | false =>
    rw [e1, Bool.false_and] at ek
    rw [wr_no ek] at h1
    exact if_true_of rfl h1
  | true =>
    rw [e1, Bool.true_and] at ek
    refine if_false_of rfl ?_
    refine ⟨_, rfl, _, _, rfl, c, 4096, rfl, rfl, _, rfl, ?_⟩
    cases e2 : dist c 4096 with
    | false =>
      rw [e2] at ek
      rw [wr_no ek] at h1
      exact if_true_of rfl h1
    | true =>
      rw [e2] at ek
      obtain ⟨a, b, c, rfl, rfl, rfl, ha, hb, hc⟩ := of_ok ek
      rw [wr_yes ek] at h1
      refine if_false_of rfl ?_
      refine ⟨_, rfl, _, _, rfl, rfl, (by dsimp only; decide), _, _, rfl, rfl, _, _, rfl, rfl, shl_ok (by decide) (by decide) (and_lt (by decide) (by decide)), ?_⟩
      refine ⟨_, rfl, _, _, rfl, rfl, (by dsimp only; decide), _, _, rfl, rfl, _, _, rfl, rfl, shl_ok (by decide) (by decide) (and_lt (by decide) (by decide)), _, _, rfl, rfl, ?_⟩
      refine ⟨_, rfl, _, rfl, _, _, rfl, rfl, shl_ok (by decide) (by decide) (by omega), _, _, rfl, rfl, ?_⟩
      refine ⟨_, rfl, _, _, rfl, rfl, shl_ok (by decide) (by decide) (by omega), _, _, rfl, rfl, ?_⟩
      refine ⟨_, rfl, _, _, rfl, rfl, (by dsimp only; decide), _, _, rfl, rfl, _, _, rfl, rfl, shl_ok (by decide) (by decide) (and_lt (by decide) (by decide)), _, _, rfl, rfl, ?_⟩
      refine ⟨_, rfl, _, _, rfl, rfl, (by dsimp only; decide), _, _, rfl, rfl, _, _, rfl, rfl, shl_ok (by decide) (by decide) (and_lt (by decide) (by decide)), _, _, rfl, rfl, ?_⟩
      exact h1
theorem sc__write_upper : FnScope ["one", "number", "nought"] ["one", "number", "nought"] (defScope s__write_upper) := ⟨rfl, rfl, rfl, by decide +kernel, rfl, by decide +kernel, by decide +kernel⟩
theorem g__write_upper (T : Txt K mg w) (G__are_registers : Gd P w K mg base CX0 2 "_are_registers" ["one", "other", "third"] (sp__are_registers K)) (G_is_number : Gd P w K mg base CX0 1 "is_number" ["thing", "least", "most"] (sp_is_number K)) : Gd P w K mg base CX0 3 "_write_upper" ["one", "number", "nought"] (sp__write_upper K) := by
  have sc := sc__write_upper
  refine T.d__write_upper.ok sc len3 (fun _ _ _ _ _ _ us hl => match us, hl with | [_, _, _], _ => rfl) (fun f cdv A outer s H vs Q E hr h => ?_)
  obtain ⟨x0, x1, x2, rfl, h⟩ := h
  obtain ⟨a, b, c, rfl, rfl, rfl, h⟩ := h
  refine ⟨_, (pss_cons (ps_if (PW.pt (pw_or (pt_not (pt_val (pe_g G__are_registers (hr.mono (by omega)) pass0 (pa_cons (pv 0) (pa_cons pe_int (pa_cons pe_int pa_nil)))))) (pw_or (pt_not (pt_val (pe_g G_is_number (hr.mono (by omega)) pass0 (pa_cons (pv 1) (pa_cons pe_int (pa_cons (pe_op op_sub (pe_gint T.c_HALF_JUMP) pe_int) pa_nil)))))) (pw_or1 (pt_not (pt_val (pe_g G_is_number (hr.mono (by omega)) pass0 (pa_cons (pv 2) (pa_cons pe_int (pa_cons pe_int pa_nil)))))))))) (pss_one (ps_ret pe_non)) pss_nil)
      (pss_one (ps_ret (pe_op op_or (pe_op op_shl (pv 1) pe_int) (pe_op op_shl (pv 0) pe_int))))), ?_⟩
  refine ⟨_, rfl, _, _, _, rfl, a, some 0, some 0, rfl, rfl, rfl, fun H1 s1 => ⟨_, rfl, ?_⟩⟩
  have h1 := h H1 s1
  have ek := oku a b c
  cases e1 : (isN a 0 31 && (isN (some 0) 0 31 && isN (some 0) 0 31)) with
  | false =>
    rw [e1, Bool.false_and] at ek
    rw [wr_no ek] at h1
    exact if_true_of rfl h1
  | true =>
    rw [e1, Bool.true_and] at ek
    refine if_false_of rfl ?_
    refine ⟨_, rfl, _, _, rfl, rfl, _, _, _, rfl, b, 0, 1048575, rfl, rfl, rfl, _, rfl, ?_⟩
    cases e2 : isN b 0 1048575 with
    | false =>
      rw [e2, Bool.false_and] at ek
      rw [wr_no ek] at h1
      exact if_true_of rfl h1
    | true =>
      rw [e2, Bool.true_and] at ek
      refine if_false_of rfl ?_
      refine ⟨_, rfl, _, _, _, rfl, c, 0, 0, rfl, rfl, rfl, _, rfl, ?_⟩
      cases e3 : isN c 0 0 with
      | false =>
        rw [e3] at ek
        rw [wr_no ek] at h1
        exact if_true_of rfl h1
      | true =>
        rw [e3] at ek
        obtain ⟨a, b, c, rfl, rfl, rfl, ha, hb, hc⟩ := of_ok ek
        rw [wr_yes ek] at h1
        refine if_false_of rfl ?_
        refine ⟨_, rfl, _, _, rfl, rfl, shl_ok (by decide) (by decide) (by omega), _, rfl, _, _, rfl, rfl, shl_ok (by decide) (by decide) (by omega), _, _, rfl, rfl, ?_⟩
        exact h1
theorem sc__write_jump : FnScope ["one", "distance", "nought", "high"] ["one", "distance", "nought"] (defScope s__write_jump) := ⟨rfl, rfl, rfl, by decide +kernel, rfl, by decide +kernel, by decide +kernel⟩
theorem g__write_jump (T : Txt K mg w) (G__are_registers : Gd P w K mg base CX0 2 "_are_registers" ["one", "other", "third"] (sp__are_registers K)) (G__is_distance : Gd P w K mg base CX0 2 "_is_distance" ["thing", "half"] (sp__is_distance K)) (G_is_number : Gd P w K mg base CX0 1 "is_number" ["thing", "least", "most"] (sp_is_number K)) : Gd P w K mg base CX0 3 "_write_jump" ["one", "distance", "nought"] (sp__write_jump K) := by
  have sc := sc__write_jump
  refine T.d__write_jump.ok sc len3 (fun _ _ _ _ _ _ us hl => match us, hl with | [_, _, _], _ => rfl) (fun f cdv A outer s H vs Q E hr h => ?_)
  obtain ⟨x0, x1, x2, rfl, h⟩ := h
  obtain ⟨a, b, c, rfl, rfl, rfl, h⟩ := h
  refine ⟨_, (pss_cons (ps_if (PW.pt (pw_or (pt_not (pt_val (pe_g G__are_registers (hr.mono (by omega)) pass0 (pa_cons (pv 0) (pa_cons pe_int (pa_cons pe_int pa_nil)))))) (pw_or (pt_not (pt_val (pe_g G__is_distance (hr.mono (by omega)) pass0 (pa_cons (pv 1) (pa_cons (pe_gint T.c_HALF_JUMP) pa_nil))))) (pw_or1 (pt_not (pt_val (pe_g G_is_number (hr.mono (by omega)) pass0 (pa_cons (pv 2) (pa_cons pe_int (pa_cons pe_int pa_nil)))))))))) (pss_one (ps_ret pe_non)) pss_nil)
      (pss_cons (ps_set (i := 3) sc.nd rfl (Or.inl rfl) (pe_op op_or (pe_op op_shl (pe_op op_and (pe_op op_shr (pv 1) pe_int) pe_int) pe_int) (pe_op op_shl (pe_op op_and (pe_op op_shr (pv 1) pe_int) pe_int) pe_int)))
      (pss_one (ps_ret (pe_op op_or (pe_op op_or (pe_op op_or (pv 3) (pe_op op_shl (pe_op op_and (pe_op op_shr (pv 1) pe_int) pe_int) pe_int)) (pe_op op_shl (pe_op op_and (pe_op op_shr (pv 1) pe_int) pe_int) pe_int)) (pe_op op_shl (pv 0) pe_int)))))), ?_⟩
  refine ⟨_, rfl, _, _, _, rfl, a, some 0, some 0, rfl, rfl, rfl, fun H1 s1 => ⟨_, rfl, ?_⟩⟩
  have h1 := h H1 s1
  have ek := okj a b c
  cases e1 : (isN a 0 31 && (isN (some 0) 0 31 && isN (some 0) 0 31)) with
  | false =>
    rw [e1, Bool.false_and] at ek
    rw [wr_no ek] at h1
    exact if_true_of rfl h1
  | true =>
    rw [e1, Bool.true_and] at ek
    refine if_false_of rfl ?_
    refine ⟨_, rfl, _, _, rfl, b, 1048576, rfl, rfl, _, rfl, ?_⟩
    cases e2 : dist b 1048576 with
    | false =>
      rw [e2, Bool.false_and] at ek
      rw [wr_no ek] at h1
      exact if_true_of rfl h1
    | true =>
      rw [e2, Bool.true_and] at ek
      refine if_false_of rfl ?_
      refine ⟨_, rfl, _, _, _, rfl, c, 0, 0, rfl, rfl, rfl, _, rfl, ?_⟩
      cases e3 : isN c 0 0 with
      | false =>
        rw [e3] at ek
        rw [wr_no ek] at h1
        exact if_true_of rfl h1
      | true =>
        rw [e3] at ek
        obtain ⟨a, b, c, rfl, rfl, rfl, ha, hb, hc⟩ := of_ok ek
        rw [wr_yes ek] at h1
        refine if_false_of rfl ?_
        refine ⟨_, rfl, _, _, rfl, rfl, (by dsimp only; decide), _, _, rfl, rfl, _, _, rfl, rfl, shl_ok (by decide) (by decide) (and_lt (by decide) (by decide)), ?_⟩
        refine ⟨_, rfl, _, _, rfl, rfl, (by dsimp only; decide), _, _, rfl, rfl, _, _, rfl, rfl, shl_ok (by decide) (by decide) (and_lt (by decide) (by decide)), _, _, rfl, rfl, ?_⟩
        refine ⟨_, rfl, _, rfl, _, _, rfl, rfl, (by dsimp only; decide), _, _, rfl, rfl, _, _, rfl, rfl, shl_ok (by decide) (by decide) (and_lt (by decide) (by decide)), _, _, rfl, rfl, ?_⟩
        refine ⟨_, rfl, _, _, rfl, rfl, (by dsimp only; decide), _, _, rfl, rfl, _, _, rfl, rfl, shl_ok (by decide) (by decide) (and_lt (by decide) (by decide)), _, _, rfl, rfl, ?_⟩
        refine ⟨_, rfl, _, _, rfl, rfl, shl_ok (by decide) (by decide) (by omega), _, _, rfl, rfl, ?_⟩
        exact h1
theorem sc__write_whole : FnScope ["one", "other", "third"] ["one", "other", "third"] (defScope s__write_whole) := ⟨rfl, rfl, rfl, by decide +kernel, rfl, by decide +kernel, by decide +kernel⟩
theorem g__write_whole (T : Txt K mg w) (G_is_number : Gd P w K mg base CX0 1 "is_number" ["thing", "least", "most"] (sp_is_number K)) : Gd P w K mg base CX0 2 "_write_whole" ["one", "other", "third"] (sp__write_whole K) := by
  have sc := sc__write_whole
  refine T.d__write_whole.ok sc len3 (fun _ _ _ _ _ _ us hl => match us, hl with | [_, _, _], _ => rfl) (fun f cdv A outer s H vs Q E hr h => ?_)
  obtain ⟨x0, x1, x2, rfl, h⟩ := h
  obtain ⟨a, b, c, rfl, rfl, rfl, h⟩ := h
  refine ⟨_, (pss_one (ps_ret (pe_ifExp (PW.pt (pw_and (pt_val (pe_g G_is_number (hr.mono (by omega)) pass0 (pa_cons (pv 0) (pa_cons pe_int (pa_cons pe_int pa_nil))))) (pw_and (pt_val (pe_g G_is_number (hr.mono (by omega)) pass0 (pa_cons (pv 1) (pa_cons pe_int (pa_cons pe_int pa_nil))))) (pw_and1 (pt_val (pe_g G_is_number (hr.mono (by omega)) pass0 (pa_cons (pv 2) (pa_cons pe_int (pa_cons pe_int pa_nil))))))))) pe_int pe_non))), ?_⟩
  have h1 := h H Same.rf
  have ek : ok .whole a b c = (isN a 0 0 && (isN b 0 0 && isN c 0 0)) := rfl
  refine ⟨_, rfl, _, _, _, rfl, a, 0, 0, rfl, rfl, rfl, _, rfl, ?_⟩
  cases e1 : isN a 0 0 with
  | false =>
    rw [e1, Bool.false_and] at ek
    rw [wr_no ek] at h1
    exact if_false_of rfl h1
  | true =>
    rw [e1, Bool.true_and] at ek
    refine if_true_of rfl ?_
    refine ⟨_, rfl, _, _, _, rfl, b, 0, 0, rfl, rfl, rfl, _, rfl, ?_⟩
    cases e2 : isN b 0 0 with
    | false =>
      rw [e2, Bool.false_and] at ek
      rw [wr_no ek] at h1
      exact if_false_of rfl h1
    | true =>
      rw [e2, Bool.true_and] at ek
      refine if_true_of rfl ?_
      refine ⟨_, rfl, _, _, _, rfl, c, 0, 0, rfl, rfl, rfl, _, rfl, ?_⟩
      cases e3 : isN c 0 0 with
      | false =>
        rw [e3] at ek
        rw [wr_no ek] at h1
        exact if_false_of rfl h1
      | true =>
        rw [e3] at ek
        obtain ⟨a, b, c, rfl, rfl, rfl, ha, hb, hc⟩ := of_ok ek
        rw [wr_yes ek] at h1
        exact if_true_of rfl h1
end
end K82

namespace K82
open PySem PyProof.Rows L2 My Ru I6
open Builtin (bitAnd bitOr)
theorem ent_in {K : PySem.W.Frag} {d x : Str} {vs : List V} (h : Ent K d x vs) : ∃ r, PySem.W.nsIn K (He.ga K d) x = some (some r) := let ⟨a, e, _⟩ := h; ⟨.ref a, e⟩
theorem ent_kd {K : PySem.W.Frag} {w : World} {d x : Str} {vs : List V} (k : ∃ es n, KDict K w (He.ga K d) es n) (h : Ent K d x vs) : ∃ a, KDct K w (He.ga K d) x (.ref a) ∧ ∀ H : Hp, SqT K H a vs := by
  obtain ⟨es, n, D⟩ := k
  obtain ⟨a, e, q⟩ := h
  exact ⟨a, ⟨es, n, _, D.at_, D.lit, e, rfl⟩, q⟩
def Wr (K : PySem.W.Frag) (f : Addr) (sp : Sp) : Prop := ∃ F : Fo, f = He.ga K (wnm F) ∧ sp = spW F
theorem foS_whole {f : Fo} : foS f = "whole" ↔ f = .whole := by
  cases f <;> simp only [foS] <;> decide +kernel
theorem foS_dec (f : Fo) : decide (V.str (foS f) = V.str "whole") = decide (f = .whole) := by
  by_cases c : f = .whole
  · rw [decide_eq_true c, c]; exact decide_eq_true rfl
  · rw [decide_eq_false c]
    exact decide_eq_false (fun z => c (foS_whole.mp (V.str.inj z)))
theorem ins_some {n : V} {a b c : O} {o : Nat} (h : insM n a b c = some o) : o < 48 ∧ n = .str (nm o) ∧ ok (fo o) a b c = true := by
  unfold insM at h
  cases n with
  | str s =>
    dsimp only at h
    cases e : posOf nms s with
    | none => rw [e] at h; cases h
    | some j =>
      rw [e] at h
      have h : (if ok (fo j) a b c = true then some j else none) = some o := h
      split at h
      · rename_i q
        injection h with h
        subst h
        obtain ⟨h1, h2⟩ := pos_nm e
        rw [h2]
        exact ⟨h1, rfl, q⟩
      · cases h
  | _ => cases h
theorem ins_of {s : Str} {a b c : O} {o : Nat} (e : posOf nms s = some o) : insM (.str s) a b c = if ok (fo o) a b c = true then some o else none := by
  unfold insM
  dsimp only
  rw [e]; rfl
section
variable {P : Program} {w : World} {K : PySem.W.Frag} {mg : Str → Option Value} {base : Heap}
theorem sc_encode : FnScope ["instruction", "write", "parts", "name", "one", "other", "third", "form", "last", "part", "first"] ["instruction"] (defScope s_encode) := ⟨rfl, rfl, rfl, by decide +kernel, rfl, by decide +kernel, by decide +kernel⟩
theorem g_encode (T : Txt K mg w) (G__write_three : Gd P w K mg base CX0 3 "_write_three" ["one", "other", "third"] (sp__write_three K)) (G__write_number : Gd P w K mg base CX0 3 "_write_number" ["one", "other", "number"] (sp__write_number K)) (G__write_store : Gd P w K mg base CX0 3 "_write_store" ["one", "other", "number"] (sp__write_store K)) (G__write_branch : Gd P w K mg base CX0 3 "_write_branch" ["one", "other", "distance"] (sp__write_branch K)) (G__write_upper : Gd P w K mg base CX0 3 "_write_upper" ["one", "number", "nought"] (sp__write_upper K)) (G__write_jump : Gd P w K mg base CX0 3 "_write_jump" ["one", "distance", "nought"] (sp__write_jump K)) (G__write_whole : Gd P w K mg base CX0 2 "_write_whole" ["one", "other", "third"] (sp__write_whole K)) : Gd P w K mg base (L2.CX P w) 4 "encode" ["instruction"] (sp_encode K) := by
  have sc := sc_encode
  refine T.d_encode.okX sc len1 (fun _ _ _ _ _ _ us hl => match us, hl with | [_], _ => rfl) (fun f cdv A outer s H vs Q E hr h => ?_)
  obtain ⟨x0, rfl, h⟩ := h
  obtain ⟨p, n, a, b, c, rfl, hp, hn, hok, hbad⟩ := h
  obtain ⟨esF, nF, kd_FORMS⟩ := T.k_FORMS
  have HB_write : ∀ f sp, Wr K f sp → Held P w K mg base CX0 3 f sp := by
    rintro f sp ⟨F, rfl, rfl⟩
    cases F with
    | three => exact held_of G__write_three (by omega) T.ga__write_three
    | number => exact held_of G__write_number (by omega) T.ga__write_number
    | shift => exact held_of (sp := spW .shift) G__write_three (by omega) T.ga__write_three
    | store => exact held_of G__write_store (by omega) T.ga__write_store
    | branch => exact held_of G__write_branch (by omega) T.ga__write_branch
    | upper => exact held_of G__write_upper (by omega) T.ga__write_upper
    | jump => exact held_of G__write_jump (by omega) T.ga__write_jump
    | whole => exact held_of G__write_whole (by omega) T.ga__write_whole
  refine ⟨_, (pss_cons (ps_if (PW.pt (pw_or (pt_not (pt_val (pe_callB call_isi (by rfl) T.n_isinstance (by decide +kernel) (pa_cons (pv 0) (pa_cons (pe_bltn (v := .ty "tuple") (u := .type "tuple") (by rfl) T.n_tuple (by decide +kernel) rfl) pa_nil))))) (pw_or (pt_cmpR op_ne (pe_callB call_len_seq (by rfl) T.n_len PySem.boot_len (pa_cons (pv 0) pa_nil)) pe_int (nomark _)) (pw_or1 (pt_not (pt_val (pe_callB call_isi (by rfl) T.n_isinstance (by decide +kernel) (pa_cons (pe_ix ix_tup (pv 0) pe_int (fun _ _ => rfl)) (pa_cons (pe_bltn (v := .ty "str") (u := .type "str") (by rfl) T.n_str (by decide +kernel) rfl) pa_nil))))))))) (pss_one (ps_raiseBf rfl T.bf hr (takes_of rfl rfl rfl rfl) (pa_cons (pv 0) pa_nil))) pss_nil)
      (pss_cons (ps_asg (pv 0) (pg_tup rfl (pgs_cons (pg_name (i := 3) sc.nd rfl (Or.inl rfl)) (pgs_cons (pg_name (i := 4) sc.nd rfl (Or.inl rfl)) (pgs_cons (pg_name (i := 5) sc.nd rfl (Or.inl rfl)) (pgs_cons (pg_name (i := 6) sc.nd rfl (Or.inl rfl)) pgs_nil))))))
      (pss_cons (ps_if (pt_cmpR (op_notIn_kd kd_FORMS) (pv 3) (pe_gref T.c_FORMS) rfl) (pss_one (ps_raiseBf rfl T.bf hr (takes_of rfl rfl rfl rfl) (pa_cons (pv 0) pa_nil))) pss_nil)
      (pss_cons (ps_asg (pe_ix ix_kdict (pe_gref T.c_FORMS) (pv 3) (fun _ _ => rfl)) (pg_tup rfl (pgs_cons (pg_name (i := 7) sc.nd rfl (Or.inl rfl)) (pgs_cons (pg_name (i := 8) sc.nd rfl (Or.inl rfl)) (pgs_cons (pg_name (i := 9) sc.nd rfl (Or.inl rfl)) (pgs_cons (pg_name (i := 10) sc.nd rfl (Or.inl rfl)) pgs_nil))))))
      (pss_cons (ps_set (i := 1) sc.nd rfl (Or.inl rfl) (pe_ix ix_kdict (pe_gref T.c_WRITERS) (pv 7) (fun _ _ => rfl)))
      (pss_cons (ps_set (i := 2) sc.nd rfl (Or.inl rfl) (Ru.pe_callV (i := 1) HB_write (hr.mono (by omega)) rfl (Or.inl rfl) pass0 (pa_cons (pv 4) (pa_cons (pv 5) (pa_cons (pv 6) pa_nil)))))
      (pss_cons (ps_if (pt_cmpR op_isN (pv 2) pe_non (nomark _)) (pss_one (ps_raiseBf rfl T.bf hr (takes_of rfl rfl rfl rfl) (pa_cons (pv 0) pa_nil))) pss_nil)
      (pss_one (ps_ret (pe_ifExp (pt_cmpR op_ne (pv 7) pe_str (nomark _)) (pe_op op_or (pe_op op_or (pe_op op_or (pv 2) (pv 8)) (pe_op op_shl (pv 9) pe_int)) (pe_op op_shl (pv 10) pe_int)) (pv 9))))))))))), ?_⟩
  refine ⟨_, rfl, _, _, .type "tuple", .type "tuple", true, rfl, .ty "tuple", .base (.tup hp), kit_ty (by decide +kernel), true, rfl, if_false_of rfl ?_⟩
  refine ⟨_, rfl, p, _, rfl, Or.inr (SqT.of hp), rfl, _, rfl, if_false_of rfl ?_⟩
  rcases hn with rfl | ⟨s, rfl⟩
  · refine ⟨_, rfl, p, _, 0, V.non, rfl, rfl, SqT.of hp, at_of (j := 0) rfl rfl, _, _, .type "NoneType", .type "str", false, rfl, .ty "str", .base .non, kit_ty (by decide +kernel), false, rfl, if_true_of rfl ?_⟩
    exact ⟨_, rfl, _, rfl, fun d hd => hbad rfl H d Same.rf hd⟩
  refine ⟨_, rfl, p, _, 0, V.str s, rfl, rfl, SqT.of hp, at_of (j := 0) rfl rfl, _, _, .type "str", .type "str", true, rfl, .ty "str", .base (.str _), kit_ty (by decide +kernel), true, rfl, if_false_of rfl ?_⟩
  refine ⟨_, rfl, p, _, rfl, SqT.of hp, rfl, _, _, rfl, _, _, rfl, _, _, rfl, _, _, rfl, rfl, ?_⟩
  cases es : posOf nms s with
  | none =>
    refine ⟨_, rfl, s, none, rfl, rfl, T.f_no s es, _, rfl, if_true_of rfl ?_⟩
    exact ⟨_, rfl, _, rfl, fun d hd => hbad (by unfold insM; dsimp only; rw [es]; rfl) H d Same.rf hd⟩
  | some o =>
    obtain ⟨ho, rfl⟩ := pos_nm es
    have iM := ins_of (a := a) (b := b) (c := c) es
    obtain ⟨u, hns⟩ := ent_in (T.f_ent o ho)
    obtain ⟨fa, hkd, hfa⟩ := ent_kd T.k_FORMS (T.f_ent o ho)
    refine ⟨_, rfl, _, some u, rfl, rfl, hns, _, rfl, if_false_of rfl ?_⟩
    refine ⟨_, rfl, _, _, _, rfl, rfl, hkd, fa, _, rfl, hfa _, rfl, _, _, rfl, _, _, rfl, _, _, rfl, _, _, rfl, rfl, ?_⟩
    refine ⟨_, rfl, _, _, _, rfl, rfl, T.w_tab (fo o), ?_⟩
    refine ⟨_, spW (fo o), rfl, ⟨fo o, rfl, rfl⟩, _, rfl, _, rfl, _, rfl, _, _, _, rfl, a, b, c, rfl, rfl, rfl, fun H1 s1 => ?_⟩
    cases e : ok (fo o) a b c with
    | false =>
      rw [wr_no e]
      refine ⟨_, rfl, rfl, _, rfl, if_true_of rfl ?_⟩
      rw [e] at iM
      exact ⟨_, rfl, _, rfl, fun d hd => hbad iM H1 d s1 hd⟩
    | true =>
      rw [e, if_pos rfl] at iM
      obtain ⟨a, b, c, rfl, rfl, rfl, hi⟩ := of_ok e
      rw [wr_yes e]
      have h1 := hok o iM H1 s1
      have R := row ho
      refine ⟨_, rfl, rfl, _, rfl, if_false_of rfl ?_⟩
      refine ⟨_, rfl, rfl, _, rfl, ?_⟩
      by_cases cw : fo o = .whole
      · refine if_false_of ?_ ?_
        · show (!decide (V.str (foS (fo o)) = V.str "whole")) = false
          rw [foS_dec, decide_eq_true cw]; rfl
        refine ⟨_, rfl, ?_⟩
        unfold wordM at h1
        rw [if_pos cw] at h1
        exact h1
      · refine if_true_of ?_ ?_
        · show (!decide (V.str (foS (fo o)) = V.str "whole")) = true
          rw [foS_dec, decide_eq_false cw]; rfl
        have rp := R.p cw
        have rf := R.f
        refine ⟨_, rfl, _, rfl, _, _, rfl, rfl, _, rfl, _, _, rfl, rfl, shl_ok (by decide) (by decide) (by omega), _, _, rfl, rfl, _, rfl, _, _, rfl, rfl, shl_ok (by decide) (by decide) (by omega), _, _, rfl, rfl, ?_⟩
        unfold wordM at h1
        rw [if_neg cw] at h1
        exact h1
end
end K82

namespace K82
open PySem PyProof.Rows L2 My Ru I6
open Builtin (bitAnd bitOr)
def Rr (K : PySem.W.Frag) (f : Addr) (sp : Sp) : Prop := ∃ F : Fo, f = He.ga K (rnm F) ∧ sp = spR F
theorem big31 {w : Int} (h0 : 0 ≤ w) (h1 : w < 4294967296) : -4294967296 ≤ w / 2 ^ (31 : Int).toNat ∧ w / 2 ^ (31 : Int).toNat ≤ 4294967296 := by
  have e : (2 : Int) ^ (31 : Int).toNat = 2147483648 := by decide
  rw [e]; omega
theorem big25 {w : Int} (h0 : 0 ≤ w) (h1 : w < 4294967296) : -4294967296 ≤ w / 2 ^ (25 : Int).toNat ∧ w / 2 ^ (25 : Int).toNat ≤ 4294967296 := by
  have e : (2 : Int) ^ (25 : Int).toNat = 33554432 := by decide
  rw [e]; omega
theorem find_at {p : Nat → Bool} : ∀ {l : List Nat} {i : Nat} {o : Nat}, (∀ j, j < i → ∀ q, l[j]? = some q → p q = false) → l[i]? = some o → p o = true → l.find? p = some o
  | [], i, o, _, h, _ => by simp at h
  | a :: l, 0, o, _, h, e => by
    injection h with h
    subst h
    rw [List.find?_cons, e]
  | a :: l, i + 1, o, hf, h, e => by
    rw [List.find?_cons, hf 0 (Nat.succ_pos _) a rfl]
    exact find_at (fun j hj q hq => hf (j + 1) (Nat.succ_lt_succ hj) q hq) h e
theorem find_no {p : Nat → Bool} {l : List Nat} (h : ∀ j, j < l.length → ∀ q, l[j]? = some q → p q = false) : l.find? p = none := by
  rw [List.find?_eq_none]
  intro x hx
  obtain ⟨j, hj, e⟩ := List.mem_iff_getElem.mp hx
  have := h j hj x (by rw [List.getElem?_eq_getElem hj, e])
  rw [this]; exact Bool.false_ne_true
theorem dec_i (a b : Int) : decide (V.int a = V.int b) = decide (a = b) := by
  by_cases c : a = b
  · rw [decide_eq_true c, c]; exact decide_eq_true rfl
  · rw [decide_eq_false c]
    exact decide_eq_false (fun z => c (V.int.inj z))
theorem step_f {p : Nat → Bool} {l : List Nat} {i o : Nat} (hf : ∀ j, j < i → ∀ q, l[j]? = some q → p q = false) (ho : l[i]? = some o) (e : p o = false) : ∀ j, j < i + 1 → ∀ q, l[j]? = some q → p q = false := by
  intro j hj q hq
  by_cases c : j = i
  · subst c
    rw [ho] at hq
    injection hq with hq
    subst hq
    exact e
  · exact hf j (by omega) q hq
section
variable {P : Program} {w : World} {K : PySem.W.Frag} {mg : Str → Option Value} {base : Heap}
theorem sc__with_sign : FnScope ["number", "half"] ["number", "half"] (defScope s__with_sign) := ⟨rfl, rfl, rfl, by decide +kernel, rfl, by decide +kernel, by decide +kernel⟩
theorem g__with_sign (T : Txt K mg w)  : Gd P w K mg base CX0 1 "_with_sign" ["number", "half"] (sp__with_sign K) := by
  have sc := sc__with_sign
  refine T.d__with_sign.ok sc len2 (fun _ _ _ _ _ _ us hl => match us, hl with | [_, _], _ => rfl) (fun f cdv A outer s H vs Q E hr h => ?_)
  obtain ⟨x0, x1, rfl, h⟩ := h
  obtain ⟨n, g, rfl, rfl, h⟩ := h
  refine ⟨_, (pss_one (ps_ret (pe_ifExp (pt_cmpR op_ge (pv 0) (pv 1) (nomark _)) (pe_op op_sub (pv 0) (pe_op op_mul pe_int (pv 1))) (pv 0)))), ?_⟩
  refine ⟨_, rfl, _, rfl, _, _, rfl, rfl, _, rfl, ?_⟩
  unfold B6.sgn at h
  by_cases c : g ≤ n
  · rw [if_pos c] at h
    refine if_true_of (decide_eq_true c) ?_
    exact ⟨_, rfl, _, rfl, _, _, rfl, rfl, Or.inl ⟨by decide, by decide⟩, _, _, rfl, rfl, h⟩
  · rw [if_neg c] at h
    refine if_false_of (decide_eq_false c) ?_
    exact ⟨_, rfl, h⟩
theorem sc__read_three : FnScope ["word"] ["word"] (defScope s__read_three) := ⟨rfl, rfl, rfl, by decide +kernel, rfl, by decide +kernel, by decide +kernel⟩
theorem g__read_three (T : Txt K mg w)  : Gd P w K mg base CX0 1 "_read_three" ["word"] (sp__read_three K) := by
  have sc := sc__read_three
  refine T.d__read_three.ok sc len1 (fun _ _ _ _ _ _ us hl => match us, hl with | [_], _ => rfl) (fun f cdv A outer s H vs Q E hr h => ?_)
  obtain ⟨x0, rfl, h⟩ := h
  obtain ⟨v, rfl, hw0, hw1, h⟩ := h
  refine ⟨_, (pss_one (ps_ret (pe_tup (pa_cons (pe_op op_and (pe_op op_shr (pv 0) pe_int) pe_int) (pa_cons (pe_op op_and (pe_op op_shr (pv 0) pe_int) pe_int) (pa_cons (pe_op op_and (pe_op op_shr (pv 0) pe_int) pe_int) pa_nil)))))), ?_⟩
  refine ⟨_, rfl, _, _, rfl, rfl, (by dsimp only; decide), _, _, rfl, rfl, ?_⟩
  refine ⟨_, rfl, _, _, rfl, rfl, (by dsimp only; decide), _, _, rfl, rfl, ?_⟩
  refine ⟨_, rfl, _, _, rfl, rfl, (by dsimp only; decide), _, _, rfl, rfl, (by show 3 ≤ sizeLine; decide), fun p hp => ?_⟩
  exact h p hp
theorem sc__read_number : FnScope ["word"] ["word"] (defScope s__read_number) := ⟨rfl, rfl, rfl, by decide +kernel, rfl, by decide +kernel, by decide +kernel⟩
theorem g__read_number (T : Txt K mg w) (G__with_sign : Gd P w K mg base CX0 1 "_with_sign" ["number", "half"] (sp__with_sign K)) : Gd P w K mg base CX0 2 "_read_number" ["word"] (sp__read_number K) := by
  have sc := sc__read_number
  refine T.d__read_number.ok sc len1 (fun _ _ _ _ _ _ us hl => match us, hl with | [_], _ => rfl) (fun f cdv A outer s H vs Q E hr h => ?_)
  obtain ⟨x0, rfl, h⟩ := h
  obtain ⟨v, rfl, hw0, hw1, h⟩ := h
  refine ⟨_, (pss_one (ps_ret (pe_tup (pa_cons (pe_op op_and (pe_op op_shr (pv 0) pe_int) pe_int) (pa_cons (pe_op op_and (pe_op op_shr (pv 0) pe_int) pe_int) (pa_cons (pe_g G__with_sign (hr.mono (by omega)) pass0 (pa_cons (pe_op op_shr (pv 0) pe_int) (pa_cons (pe_gint T.c_HALF_NUMBER) pa_nil))) pa_nil)))))), ?_⟩
  refine ⟨_, rfl, _, _, rfl, rfl, (by dsimp only; decide), _, _, rfl, rfl, ?_⟩
  refine ⟨_, rfl, _, _, rfl, rfl, (by dsimp only; decide), _, _, rfl, rfl, ?_⟩
  refine ⟨_, rfl, _, _, rfl, rfl, (by dsimp only; decide), _, _, rfl, _, _, rfl, rfl, (by show 3 ≤ sizeLine; decide), fun p hp => ?_⟩
  exact h p hp
theorem sc__read_store : FnScope ["word"] ["word"] (defScope s__read_store) := ⟨rfl, rfl, rfl, by decide +kernel, rfl, by decide +kernel, by decide +kernel⟩
theorem g__read_store (T : Txt K mg w) (G__with_sign : Gd P w K mg base CX0 1 "_with_sign" ["number", "half"] (sp__with_sign K)) : Gd P w K mg base CX0 2 "_read_store" ["word"] (sp__read_store K) := by
  have sc := sc__read_store
  refine T.d__read_store.ok sc len1 (fun _ _ _ _ _ _ us hl => match us, hl with | [_], _ => rfl) (fun f cdv A outer s H vs Q E hr h => ?_)
  obtain ⟨x0, rfl, h⟩ := h
  obtain ⟨v, rfl, hw0, hw1, h⟩ := h
  refine ⟨_, (pss_one (ps_ret (pe_tup (pa_cons (pe_op op_and (pe_op op_shr (pv 0) pe_int) pe_int) (pa_cons (pe_op op_and (pe_op op_shr (pv 0) pe_int) pe_int) (pa_cons (pe_g G__with_sign (hr.mono (by omega)) pass0 (pa_cons (pe_op op_or (pe_op op_shl (pe_op op_shr (pv 0) pe_int) pe_int) (pe_op op_and (pe_op op_shr (pv 0) pe_int) pe_int)) (pa_cons (pe_gint T.c_HALF_NUMBER) pa_nil))) pa_nil)))))), ?_⟩
  refine ⟨_, rfl, _, _, rfl, rfl, (by dsimp only; decide), _, _, rfl, rfl, ?_⟩
  refine ⟨_, rfl, _, _, rfl, rfl, (by dsimp only; decide), _, _, rfl, rfl, ?_⟩
  refine ⟨_, rfl, _, _, rfl, rfl, (by dsimp only; decide), _, _, rfl, rfl, shl_ok (by decide) (by decide) (big25 hw0 hw1), ?_⟩
  refine ⟨_, rfl, _, _, rfl, rfl, (by dsimp only; decide), _, _, rfl, rfl, _, _, rfl, rfl, _, _, rfl, _, _, rfl, rfl, (by show 3 ≤ sizeLine; decide), fun p hp => ?_⟩
  exact h p hp
theorem sc__read_branch : FnScope ["word", "distance"] ["word"] (defScope s__read_branch) := ⟨rfl, rfl, rfl, by decide +kernel, rfl, by decide +kernel, by decide +kernel⟩
theorem g__read_branch (T : Txt K mg w) (G__with_sign : Gd P w K mg base CX0 1 "_with_sign" ["number", "half"] (sp__with_sign K)) : Gd P w K mg base CX0 2 "_read_branch" ["word"] (sp__read_branch K) := by
  have sc := sc__read_branch
  refine T.d__read_branch.ok sc len1 (fun _ _ _ _ _ _ us hl => match us, hl with | [_], _ => rfl) (fun f cdv A outer s H vs Q E hr h => ?_)
  obtain ⟨x0, rfl, h⟩ := h
  obtain ⟨v, rfl, hw0, hw1, h⟩ := h
  refine ⟨_, (pss_cons (ps_set (i := 1) sc.nd rfl (Or.inl rfl) (pe_op op_or (pe_op op_or (pe_op op_or (pe_op op_shl (pe_op op_shr (pv 0) pe_int) pe_int) (pe_op op_shl (pe_op op_and (pe_op op_shr (pv 0) pe_int) pe_int) pe_int)) (pe_op op_shl (pe_op op_and (pe_op op_shr (pv 0) pe_int) pe_int) pe_int)) (pe_op op_shl (pe_op op_and (pe_op op_shr (pv 0) pe_int) pe_int) pe_int)))
      (pss_one (ps_ret (pe_tup (pa_cons (pe_op op_and (pe_op op_shr (pv 0) pe_int) pe_int) (pa_cons (pe_op op_and (pe_op op_shr (pv 0) pe_int) pe_int) (pa_cons (pe_g G__with_sign (hr.mono (by omega)) pass0 (pa_cons (pv 1) (pa_cons (pe_gint T.c_HALF_BRANCH) pa_nil))) pa_nil))))))), ?_⟩
  refine ⟨_, rfl, _, _, rfl, rfl, (by dsimp only; decide), _, _, rfl, rfl, shl_ok (by decide) (by decide) (big31 hw0 hw1), ?_⟩
  refine ⟨_, rfl, _, _, rfl, rfl, (by dsimp only; decide), _, _, rfl, rfl, _, _, rfl, rfl, shl_ok (by decide) (by decide) (and_lt (by decide) (by decide)), _, _, rfl, rfl, ?_⟩
  refine ⟨_, rfl, _, _, rfl, rfl, (by dsimp only; decide), _, _, rfl, rfl, _, _, rfl, rfl, shl_ok (by decide) (by decide) (and_lt (by decide) (by decide)), _, _, rfl, rfl, ?_⟩
  refine ⟨_, rfl, _, _, rfl, rfl, (by dsimp only; decide), _, _, rfl, rfl, _, _, rfl, rfl, shl_ok (by decide) (by decide) (and_lt (by decide) (by decide)), _, _, rfl, rfl, ?_⟩
  refine ⟨_, rfl, _, _, rfl, rfl, (by dsimp only; decide), _, _, rfl, rfl, ?_⟩
  refine ⟨_, rfl, _, _, rfl, rfl, (by dsimp only; decide), _, _, rfl, rfl, ?_⟩
  refine ⟨_, rfl, _, _, rfl, _, _, rfl, rfl, (by show 3 ≤ sizeLine; decide), fun p hp => ?_⟩
  exact h p hp
theorem sc__read_upper : FnScope ["word"] ["word"] (defScope s__read_upper) := ⟨rfl, rfl, rfl, by decide +kernel, rfl, by decide +kernel, by decide +kernel⟩
theorem g__read_upper (T : Txt K mg w)  : Gd P w K mg base CX0 1 "_read_upper" ["word"] (sp__read_upper K) := by
  have sc := sc__read_upper
  refine T.d__read_upper.ok sc len1 (fun _ _ _ _ _ _ us hl => match us, hl with | [_], _ => rfl) (fun f cdv A outer s H vs Q E hr h => ?_)
  obtain ⟨x0, rfl, h⟩ := h
  obtain ⟨v, rfl, hw0, hw1, h⟩ := h
  refine ⟨_, (pss_one (ps_ret (pe_tup (pa_cons (pe_op op_and (pe_op op_shr (pv 0) pe_int) pe_int) (pa_cons (pe_op op_shr (pv 0) pe_int) (pa_cons pe_int pa_nil)))))), ?_⟩
  refine ⟨_, rfl, _, _, rfl, rfl, (by dsimp only; decide), _, _, rfl, rfl, ?_⟩
  refine ⟨_, rfl, _, _, rfl, rfl, (by dsimp only; decide), (by show 3 ≤ sizeLine; decide), fun p hp => ?_⟩
  exact h p hp
theorem sc__read_jump : FnScope ["word", "distance"] ["word"] (defScope s__read_jump) := ⟨rfl, rfl, rfl, by decide +kernel, rfl, by decide +kernel, by decide +kernel⟩
theorem g__read_jump (T : Txt K mg w) (G__with_sign : Gd P w K mg base CX0 1 "_with_sign" ["number", "half"] (sp__with_sign K)) : Gd P w K mg base CX0 2 "_read_jump" ["word"] (sp__read_jump K) := by
  have sc := sc__read_jump
  refine T.d__read_jump.ok sc len1 (fun _ _ _ _ _ _ us hl => match us, hl with | [_], _ => rfl) (fun f cdv A outer s H vs Q E hr h => ?_)
  obtain ⟨x0, rfl, h⟩ := h
  obtain ⟨v, rfl, hw0, hw1, h⟩ := h
  refine ⟨_, (pss_cons (ps_set (i := 1) sc.nd rfl (Or.inl rfl) (pe_op op_or (pe_op op_or (pe_op op_or (pe_op op_shl (pe_op op_shr (pv 0) pe_int) pe_int) (pe_op op_shl (pe_op op_and (pe_op op_shr (pv 0) pe_int) pe_int) pe_int)) (pe_op op_shl (pe_op op_and (pe_op op_shr (pv 0) pe_int) pe_int) pe_int)) (pe_op op_shl (pe_op op_and (pe_op op_shr (pv 0) pe_int) pe_int) pe_int)))
      (pss_one (ps_ret (pe_tup (pa_cons (pe_op op_and (pe_op op_shr (pv 0) pe_int) pe_int) (pa_cons (pe_g G__with_sign (hr.mono (by omega)) pass0 (pa_cons (pv 1) (pa_cons (pe_gint T.c_HALF_JUMP) pa_nil))) (pa_cons pe_int pa_nil))))))), ?_⟩
  refine ⟨_, rfl, _, _, rfl, rfl, (by dsimp only; decide), _, _, rfl, rfl, shl_ok (by decide) (by decide) (big31 hw0 hw1), ?_⟩
  refine ⟨_, rfl, _, _, rfl, rfl, (by dsimp only; decide), _, _, rfl, rfl, _, _, rfl, rfl, shl_ok (by decide) (by decide) (and_lt (by decide) (by decide)), _, _, rfl, rfl, ?_⟩
  refine ⟨_, rfl, _, _, rfl, rfl, (by dsimp only; decide), _, _, rfl, rfl, _, _, rfl, rfl, shl_ok (by decide) (by decide) (and_lt (by decide) (by decide)), _, _, rfl, rfl, ?_⟩
  refine ⟨_, rfl, _, _, rfl, rfl, (by dsimp only; decide), _, _, rfl, rfl, _, _, rfl, rfl, shl_ok (by decide) (by decide) (and_lt (by decide) (by decide)), _, _, rfl, rfl, ?_⟩
  refine ⟨_, rfl, _, _, rfl, rfl, (by dsimp only; decide), _, _, rfl, rfl, ?_⟩
  refine ⟨_, rfl, _, _, rfl, _, _, rfl, rfl, (by show 3 ≤ sizeLine; decide), fun p hp => ?_⟩
  exact h p hp
theorem sc__read_whole : FnScope ["word"] ["word"] (defScope s__read_whole) := ⟨rfl, rfl, rfl, by decide +kernel, rfl, by decide +kernel, by decide +kernel⟩
theorem g__read_whole (T : Txt K mg w)  : Gd P w K mg base CX0 1 "_read_whole" ["word"] (sp__read_whole K) := by
  have sc := sc__read_whole
  refine T.d__read_whole.ok sc len1 (fun _ _ _ _ _ _ us hl => match us, hl with | [_], _ => rfl) (fun f cdv A outer s H vs Q E hr h => ?_)
  obtain ⟨x0, rfl, h⟩ := h
  obtain ⟨v, rfl, hw0, hw1, h⟩ := h
  refine ⟨_, (pss_one (ps_ret (pe_tup (pa_cons pe_int (pa_cons pe_int (pa_cons pe_int pa_nil)))))), ?_⟩
  refine ⟨(by show 3 ≤ sizeLine; decide), fun p hp => ?_⟩
  exact h p hp
theorem sc_decode : FnScope ["word", "name", "form", "_", "part", "first", "found", "read"] ["word"] (defScope s_decode) := ⟨rfl, rfl, rfl, by decide +kernel, rfl, by decide +kernel, by decide +kernel⟩
theorem g_decode (T : Txt K mg w) (G__read_three : Gd P w K mg base CX0 1 "_read_three" ["word"] (sp__read_three K)) (G__read_number : Gd P w K mg base CX0 2 "_read_number" ["word"] (sp__read_number K)) (G__read_store : Gd P w K mg base CX0 2 "_read_store" ["word"] (sp__read_store K)) (G__read_branch : Gd P w K mg base CX0 2 "_read_branch" ["word"] (sp__read_branch K)) (G__read_upper : Gd P w K mg base CX0 1 "_read_upper" ["word"] (sp__read_upper K)) (G__read_jump : Gd P w K mg base CX0 2 "_read_jump" ["word"] (sp__read_jump K)) (G__read_whole : Gd P w K mg base CX0 1 "_read_whole" ["word"] (sp__read_whole K)) : Gd P w K mg base CX0 3 "decode" ["word"] (sp_decode K) := by
  have sc := sc_decode
  refine T.d_decode.ok sc len1 (fun _ _ _ _ _ _ us hl => match us, hl with | [_], _ => rfl) (fun f cdv A outer s H vs Q E hr h => ?_)
  obtain ⟨x0, rfl, h⟩ := h
  obtain ⟨v, rfl, hw0, hw1, hno, hyes⟩ := h
  obtain ⟨esB, nB, KB, hBY⟩ := T.k_BY
  have HB_read : ∀ f sp, Rr K f sp → Held P w K mg base CX0 2 f sp := by
    rintro f sp ⟨F, rfl, rfl⟩
    cases F with
    | three => exact held_of G__read_three (by omega) T.ga__read_three
    | number => exact held_of G__read_number (by omega) T.ga__read_number
    | shift => exact held_of (sp := spR .shift) G__read_three (by omega) T.ga__read_three
    | store => exact held_of G__read_store (by omega) T.ga__read_store
    | branch => exact held_of G__read_branch (by omega) T.ga__read_branch
    | upper => exact held_of G__read_upper (by omega) T.ga__read_upper
    | jump => exact held_of G__read_jump (by omega) T.ga__read_jump
    | whole => exact held_of G__read_whole (by omega) T.ga__read_whole
  refine ⟨_, (pss_cons (ps_for PassesOwn.never rfl (pi_tup (Kg.pe_kgetO KB (pe_gref T.c_BY_LAST_BITS) (pe_op op_and (pv 0) pe_int) (pe_tup pa_nil) ⟨rfl, rfl, rfl, rfl⟩)) (pg_name (i := 1) sc.nd rfl (Or.inl rfl)) (pss_cons (ps_asg (pe_ix ix_kdict (pe_gref T.c_FORMS) (pv 1) (fun _ _ => rfl)) (pg_tup rfl (pgs_cons (pg_name (i := 2) sc.nd rfl (Or.inl rfl)) (pgs_cons (pg_name (i := 3) sc.nd rfl (Or.inl rfl)) (pgs_cons (pg_name (i := 4) sc.nd rfl (Or.inl rfl)) (pgs_cons (pg_name (i := 5) sc.nd rfl (Or.inl rfl)) pgs_nil))))))
      (pss_cons (ps_if (pt_cmpR op_eq (pv 2) pe_str (nomark _)) (pss_one (ps_set (i := 6) sc.nd rfl (Or.inl rfl) (pe_cmpR op_eq (pv 0) (pv 4) (nomark _)))) (pss_one (ps_if (pt_cmpR op_in_seq (pv 2) (pe_tup (pa_cons pe_str (pa_cons pe_str pa_nil))) rfl) (pss_one (ps_set (i := 6) sc.nd rfl (Or.inl rfl) pe_bl)) (pss_one (ps_set (i := 6) sc.nd rfl (Or.inl rfl) (pe_and (pe_cmpR op_eq (pe_op op_and (pe_op op_shr (pv 0) pe_int) pe_int) (pv 4) (nomark _)) (pe_one (pe_or (pe_cmpR op_notIn_seq (pv 2) (pe_tup (pa_cons pe_str (pa_cons pe_str pa_nil))) rfl) (pe_one (pe_cmpR op_eq (pe_op op_shr (pv 0) pe_int) (pv 5) (nomark _)))))))))))
      (pss_one (ps_if (pt_val (pv 6)) (pss_cons (ps_set (i := 7) sc.nd rfl (Or.inl rfl) (pe_ix ix_kdict (pe_gref T.c_READERS) (pv 2) (fun _ _ => rfl)))
      (pss_one (ps_ret (pe_op op_catT (pe_tup (pa_cons (pv 1) pa_nil)) (Ru.pe_callV (i := 7) HB_read (hr.mono (by omega)) rfl (Or.inl rfl) pass0 (pa_cons (pv 0) pa_nil)))))) pss_nil)))))
      (pss_one (ps_ret pe_non))), ?_⟩
  have hl : 0 ≤ bitAnd v 127 ∧ bitAnd v 127 < 128 := by rw [m7]; omega
  have hB := hBY (bitAnd v 127) hl.1 hl.2
  by_cases cl : byl (bitAnd v 127) = []
  · refine ⟨rfl, _, rfl, _, _, rfl, rfl, (by show 0 ≤ sizeLine; decide), fun e0 he0 => ⟨_, rfl, Or.inl ⟨hB.1 cl, e0, rfl, ⟨_, SqT.of upd_same⟩, ?_⟩⟩⟩
    refine for_tup (a := e0) (xs := []) (fun i σ H' => Same H H' ∧ H' e0 = some (.tup [])) ⟨same_new he0, upd_same⟩ (fun i σ H' _ q => SqT.of q.2) ?_ ?_
    · intro i x σ H' hx
      simp at hx
    · rintro σ H' ⟨sH, _⟩
      exact hno (by unfold decM; rw [cl]; rfl) H' sH
  obtain ⟨aB, eB, qB⟩ := hB.2 cl
  refine ⟨rfl, _, rfl, _, _, rfl, rfl, (by show 0 ≤ sizeLine; decide), fun e0 he0 => ⟨_, rfl, Or.inr ⟨.ref aB, .ref aB, eB, rfl, aB, rfl, ⟨_, qB _⟩, ?_⟩⟩⟩
  refine for_tup (a := aB) (xs := (byl (bitAnd v 127)).map fun o => V.str (nm o)) (fun i σ H' => (∀ j, j < i → ∀ q, (byl (bitAnd v 127))[j]? = some q → fnd q v = false) ∧ Same H H' ∧ ∃ v1 v2 v3 v4 v5 v6 : Option V, σ = [some (.int v), v1, v2, v3, v4, v5, v6, none]) ⟨(fun j hj => absurd hj (Nat.not_lt_zero _)), same_new he0, _, _, _, _, _, _, rfl⟩ (fun i σ H' _ _ => qB _) ?_ ?_
  rotate_left
  · rintro σ H' ⟨hf, sH, _⟩
    exact hno (find_no (fun j hj => hf j (by rw [List.length_map]; exact hj))) H' sH
  · rintro i x σ H' hx ⟨hf, sH, v1, v2, v3, v4, v5, v6, rfl⟩
    obtain ⟨o, hio, rfl⟩ : ∃ o, (byl (bitAnd v 127))[i]? = some o ∧ x = V.str (nm o) := by
      rw [List.getElem?_map] at hx
      cases e : (byl (bitAnd v 127))[i]? with
      | none => rw [e] at hx; cases hx
      | some o => rw [e] at hx; injection hx with hx; exact ⟨o, rfl, hx.symm⟩
    obtain ⟨ho, hla⟩ := byl_mem (List.mem_of_getElem? hio)
    obtain ⟨fa, hkd, hfa⟩ := ent_kd T.k_FORMS (T.f_ent o ho)
    have hr := T.r_tab (fo o)
    have hyo := fun (e : fnd o v = true) => hyes o (find_at hf hio e)
    have hno := fun (e : fnd o v = false) => step_f hf hio e
    have hq : fnd o v = match fo o with
      | .whole => decide (v = pa o)
      | .upper | .jump => true
      | .three | .shift => decide (bitAnd (v / 2 ^ 12) 7 = pa o) && decide (v / 2 ^ 25 = fi o)
      | _ => decide (bitAnd (v / 2 ^ 12) 7 = pa o) := rfl
    refine ⟨_, rfl, _, _, _, rfl, rfl, hkd, fa, _, rfl, hfa _, rfl, _, _, rfl, _, _, rfl, _, _, rfl, _, _, rfl, rfl, ?_⟩
    cases ef : fo o with
    | three =>
      rw [ef] at hr hyo hq
      dsimp only at hq
      rw [hq] at hyo hno
      refine ⟨_, rfl, rfl, _, rfl, if_false_of rfl ?_⟩
      refine ⟨_, rfl, (by show 2 ≤ sizeLine; decide), fun t1 ht1 => ⟨t1, _, rfl, Or.inr (SqT.of upd_same), rfl, rfl, _, rfl, if_false_of rfl ?_⟩⟩
      refine ⟨_, rfl, _, _, rfl, rfl, (by dsimp only; decide), _, _, rfl, rfl, _, rfl, rfl, _, rfl, ?_⟩
      have e0 := dec_i (bitAnd (v / 2 ^ 12) 7) (pa o)
      cases e1 : decide (bitAnd (v / 2 ^ 12) 7 = pa o) with
      | false =>
        refine if_false_of (e0.trans e1) ?_
        have hno := hno (by rw [e1]; rfl)
        refine ⟨_, rfl, false, rfl, if_false_of rfl ?_⟩
        exact ⟨hno, Same.tr sH (same_new ht1), _, _, _, _, _, _, rfl⟩
      | true =>
        refine if_true_of (e0.trans e1) ?_
        refine ⟨_, rfl, (by show 2 ≤ sizeLine; decide), fun t2 ht2 => ⟨t2, _, rfl, Or.inr (SqT.of upd_same), rfl, rfl, false, rfl, if_false_of rfl ?_⟩⟩
        refine ⟨_, rfl, _, _, rfl, rfl, (by dsimp only; decide), _, rfl, rfl, ?_⟩
        have e3 := dec_i (v / 2 ^ 25) (fi o)
        cases e4 : decide (v / 2 ^ 25 = fi o) with
        | false =>
          have hno := hno (by rw [e1, e4]; rfl)
          have e5 : decide (V.int (v / 2 ^ (25 : Int).toNat) = V.int (fi o)) = false := e3.trans e4
          refine ⟨_, rfl, false, (congrArg V.bl e5), if_false_of rfl ?_⟩
          exact ⟨hno, Same.tr sH (Same.tr (same_new ht1) (same_new ht2)), _, _, _, _, _, _, rfl⟩
        | true =>
          have hyo := hyo (by rw [e1, e4]; rfl)
          have e5 : decide (V.int (v / 2 ^ (25 : Int).toNat) = V.int (fi o)) = true := e3.trans e4
          refine ⟨_, rfl, true, (congrArg V.bl e5), if_true_of rfl ?_⟩
          refine ⟨_, rfl, _, _, _, rfl, rfl, hr, ?_⟩
          refine ⟨_, rfl, (by show 1 ≤ sizeLine; decide), fun t3 ht3 => ⟨_, spR .three, rfl, ⟨.three, rfl, rfl⟩, _, rfl, _, rfl, v, rfl, hw0, hw1, fun p hp => ?_⟩⟩
          refine ⟨t3, p, _, _, rfl, rfl, SqT.of (by rw [upd_ne (ne_of_none upd_same hp)]; exact upd_same), SqT.of upd_same, (fun z => by cases z), (by show 4 ≤ sizeLine; decide), (fun z => by cases z), fun _ q hq => ?_⟩
          exact hyo _ q (Same.tr sH (Same.tr (Same.tr (same_new ht1) (same_new ht2)) (Same.tr (same_new ht3) (Same.tr (same_new hp) (same_new hq))))) (by rw [upd_same]; rfl)
    | number =>
      rw [ef] at hr hyo hq
      dsimp only at hq
      rw [hq] at hyo hno
      refine ⟨_, rfl, rfl, _, rfl, if_false_of rfl ?_⟩
      refine ⟨_, rfl, (by show 2 ≤ sizeLine; decide), fun t1 ht1 => ⟨t1, _, rfl, Or.inr (SqT.of upd_same), rfl, rfl, _, rfl, if_false_of rfl ?_⟩⟩
      refine ⟨_, rfl, _, _, rfl, rfl, (by dsimp only; decide), _, _, rfl, rfl, _, rfl, rfl, _, rfl, ?_⟩
      have e0 := dec_i (bitAnd (v / 2 ^ 12) 7) (pa o)
      cases e1 : decide (bitAnd (v / 2 ^ 12) 7 = pa o) with
      | false =>
        refine if_false_of (e0.trans e1) ?_
        have hno := hno (by rw [e1])
        refine ⟨_, rfl, false, rfl, if_false_of rfl ?_⟩
        exact ⟨hno, Same.tr sH (same_new ht1), _, _, _, _, _, _, rfl⟩
      | true =>
        refine if_true_of (e0.trans e1) ?_
        have hyo := hyo e1
        refine ⟨_, rfl, (by show 2 ≤ sizeLine; decide), fun t2 ht2 => ⟨t2, _, rfl, Or.inr (SqT.of upd_same), rfl, rfl, true, rfl, if_true_of rfl ?_⟩⟩
        refine ⟨_, rfl, true, rfl, if_true_of rfl ?_⟩
        refine ⟨_, rfl, _, _, _, rfl, rfl, hr, ?_⟩
        refine ⟨_, rfl, (by show 1 ≤ sizeLine; decide), fun t3 ht3 => ⟨_, spR .number, rfl, ⟨.number, rfl, rfl⟩, _, rfl, _, rfl, v, rfl, hw0, hw1, fun p hp => ?_⟩⟩
        refine ⟨t3, p, _, _, rfl, rfl, SqT.of (by rw [upd_ne (ne_of_none upd_same hp)]; exact upd_same), SqT.of upd_same, (fun z => by cases z), (by show 4 ≤ sizeLine; decide), (fun z => by cases z), fun _ q hq => ?_⟩
        exact hyo _ q (Same.tr sH (Same.tr (Same.tr (same_new ht1) (same_new ht2)) (Same.tr (same_new ht3) (Same.tr (same_new hp) (same_new hq))))) (by rw [upd_same]; rfl)
    | shift =>
      rw [ef] at hr hyo hq
      dsimp only at hq
      rw [hq] at hyo hno
      refine ⟨_, rfl, rfl, _, rfl, if_false_of rfl ?_⟩
      refine ⟨_, rfl, (by show 2 ≤ sizeLine; decide), fun t1 ht1 => ⟨t1, _, rfl, Or.inr (SqT.of upd_same), rfl, rfl, _, rfl, if_false_of rfl ?_⟩⟩
      refine ⟨_, rfl, _, _, rfl, rfl, (by dsimp only; decide), _, _, rfl, rfl, _, rfl, rfl, _, rfl, ?_⟩
      have e0 := dec_i (bitAnd (v / 2 ^ 12) 7) (pa o)
      cases e1 : decide (bitAnd (v / 2 ^ 12) 7 = pa o) with
      | false =>
        refine if_false_of (e0.trans e1) ?_
        have hno := hno (by rw [e1]; rfl)
        refine ⟨_, rfl, false, rfl, if_false_of rfl ?_⟩
        exact ⟨hno, Same.tr sH (same_new ht1), _, _, _, _, _, _, rfl⟩
      | true =>
        refine if_true_of (e0.trans e1) ?_
        refine ⟨_, rfl, (by show 2 ≤ sizeLine; decide), fun t2 ht2 => ⟨t2, _, rfl, Or.inr (SqT.of upd_same), rfl, rfl, false, rfl, if_false_of rfl ?_⟩⟩
        refine ⟨_, rfl, _, _, rfl, rfl, (by dsimp only; decide), _, rfl, rfl, ?_⟩
        have e3 := dec_i (v / 2 ^ 25) (fi o)
        cases e4 : decide (v / 2 ^ 25 = fi o) with
        | false =>
          have hno := hno (by rw [e1, e4]; rfl)
          have e5 : decide (V.int (v / 2 ^ (25 : Int).toNat) = V.int (fi o)) = false := e3.trans e4
          refine ⟨_, rfl, false, (congrArg V.bl e5), if_false_of rfl ?_⟩
          exact ⟨hno, Same.tr sH (Same.tr (same_new ht1) (same_new ht2)), _, _, _, _, _, _, rfl⟩
        | true =>
          have hyo := hyo (by rw [e1, e4]; rfl)
          have e5 : decide (V.int (v / 2 ^ (25 : Int).toNat) = V.int (fi o)) = true := e3.trans e4
          refine ⟨_, rfl, true, (congrArg V.bl e5), if_true_of rfl ?_⟩
          refine ⟨_, rfl, _, _, _, rfl, rfl, hr, ?_⟩
          refine ⟨_, rfl, (by show 1 ≤ sizeLine; decide), fun t3 ht3 => ⟨_, spR .shift, rfl, ⟨.shift, rfl, rfl⟩, _, rfl, _, rfl, v, rfl, hw0, hw1, fun p hp => ?_⟩⟩
          refine ⟨t3, p, _, _, rfl, rfl, SqT.of (by rw [upd_ne (ne_of_none upd_same hp)]; exact upd_same), SqT.of upd_same, (fun z => by cases z), (by show 4 ≤ sizeLine; decide), (fun z => by cases z), fun _ q hq => ?_⟩
          exact hyo _ q (Same.tr sH (Same.tr (Same.tr (same_new ht1) (same_new ht2)) (Same.tr (same_new ht3) (Same.tr (same_new hp) (same_new hq))))) (by rw [upd_same]; rfl)
    | store =>
      rw [ef] at hr hyo hq
      dsimp only at hq
      rw [hq] at hyo hno
      refine ⟨_, rfl, rfl, _, rfl, if_false_of rfl ?_⟩
      refine ⟨_, rfl, (by show 2 ≤ sizeLine; decide), fun t1 ht1 => ⟨t1, _, rfl, Or.inr (SqT.of upd_same), rfl, rfl, _, rfl, if_false_of rfl ?_⟩⟩
      refine ⟨_, rfl, _, _, rfl, rfl, (by dsimp only; decide), _, _, rfl, rfl, _, rfl, rfl, _, rfl, ?_⟩
      have e0 := dec_i (bitAnd (v / 2 ^ 12) 7) (pa o)
      cases e1 : decide (bitAnd (v / 2 ^ 12) 7 = pa o) with
      | false =>
        refine if_false_of (e0.trans e1) ?_
        have hno := hno (by rw [e1])
        refine ⟨_, rfl, false, rfl, if_false_of rfl ?_⟩
        exact ⟨hno, Same.tr sH (same_new ht1), _, _, _, _, _, _, rfl⟩
      | true =>
        refine if_true_of (e0.trans e1) ?_
        have hyo := hyo e1
        refine ⟨_, rfl, (by show 2 ≤ sizeLine; decide), fun t2 ht2 => ⟨t2, _, rfl, Or.inr (SqT.of upd_same), rfl, rfl, true, rfl, if_true_of rfl ?_⟩⟩
        refine ⟨_, rfl, true, rfl, if_true_of rfl ?_⟩
        refine ⟨_, rfl, _, _, _, rfl, rfl, hr, ?_⟩
        refine ⟨_, rfl, (by show 1 ≤ sizeLine; decide), fun t3 ht3 => ⟨_, spR .store, rfl, ⟨.store, rfl, rfl⟩, _, rfl, _, rfl, v, rfl, hw0, hw1, fun p hp => ?_⟩⟩
        refine ⟨t3, p, _, _, rfl, rfl, SqT.of (by rw [upd_ne (ne_of_none upd_same hp)]; exact upd_same), SqT.of upd_same, (fun z => by cases z), (by show 4 ≤ sizeLine; decide), (fun z => by cases z), fun _ q hq => ?_⟩
        exact hyo _ q (Same.tr sH (Same.tr (Same.tr (same_new ht1) (same_new ht2)) (Same.tr (same_new ht3) (Same.tr (same_new hp) (same_new hq))))) (by rw [upd_same]; rfl)
    | branch =>
      rw [ef] at hr hyo hq
      dsimp only at hq
      rw [hq] at hyo hno
      refine ⟨_, rfl, rfl, _, rfl, if_false_of rfl ?_⟩
      refine ⟨_, rfl, (by show 2 ≤ sizeLine; decide), fun t1 ht1 => ⟨t1, _, rfl, Or.inr (SqT.of upd_same), rfl, rfl, _, rfl, if_false_of rfl ?_⟩⟩
      refine ⟨_, rfl, _, _, rfl, rfl, (by dsimp only; decide), _, _, rfl, rfl, _, rfl, rfl, _, rfl, ?_⟩
      have e0 := dec_i (bitAnd (v / 2 ^ 12) 7) (pa o)
      cases e1 : decide (bitAnd (v / 2 ^ 12) 7 = pa o) with
      | false =>
        refine if_false_of (e0.trans e1) ?_
        have hno := hno (by rw [e1])
        refine ⟨_, rfl, false, rfl, if_false_of rfl ?_⟩
        exact ⟨hno, Same.tr sH (same_new ht1), _, _, _, _, _, _, rfl⟩
      | true =>
        refine if_true_of (e0.trans e1) ?_
        have hyo := hyo e1
        refine ⟨_, rfl, (by show 2 ≤ sizeLine; decide), fun t2 ht2 => ⟨t2, _, rfl, Or.inr (SqT.of upd_same), rfl, rfl, true, rfl, if_true_of rfl ?_⟩⟩
        refine ⟨_, rfl, true, rfl, if_true_of rfl ?_⟩
        refine ⟨_, rfl, _, _, _, rfl, rfl, hr, ?_⟩
        refine ⟨_, rfl, (by show 1 ≤ sizeLine; decide), fun t3 ht3 => ⟨_, spR .branch, rfl, ⟨.branch, rfl, rfl⟩, _, rfl, _, rfl, v, rfl, hw0, hw1, fun p hp => ?_⟩⟩
        refine ⟨t3, p, _, _, rfl, rfl, SqT.of (by rw [upd_ne (ne_of_none upd_same hp)]; exact upd_same), SqT.of upd_same, (fun z => by cases z), (by show 4 ≤ sizeLine; decide), (fun z => by cases z), fun _ q hq => ?_⟩
        exact hyo _ q (Same.tr sH (Same.tr (Same.tr (same_new ht1) (same_new ht2)) (Same.tr (same_new ht3) (Same.tr (same_new hp) (same_new hq))))) (by rw [upd_same]; rfl)
    | upper =>
      rw [ef] at hr hyo hq
      dsimp only at hq
      rw [hq] at hyo hno
      refine ⟨_, rfl, rfl, _, rfl, if_false_of rfl ?_⟩
      refine ⟨_, rfl, (by show 2 ≤ sizeLine; decide), fun t1 ht1 => ⟨t1, _, rfl, Or.inr (SqT.of upd_same), rfl, rfl, _, rfl, if_true_of rfl ?_⟩⟩
      have hyo := hyo rfl
      refine ⟨_, rfl, true, rfl, if_true_of rfl ?_⟩
      refine ⟨_, rfl, _, _, _, rfl, rfl, hr, ?_⟩
      refine ⟨_, rfl, (by show 1 ≤ sizeLine; decide), fun t3 ht3 => ⟨_, spR .upper, rfl, ⟨.upper, rfl, rfl⟩, _, rfl, _, rfl, v, rfl, hw0, hw1, fun p hp => ?_⟩⟩
      refine ⟨t3, p, _, _, rfl, rfl, SqT.of (by rw [upd_ne (ne_of_none upd_same hp)]; exact upd_same), SqT.of upd_same, (fun z => by cases z), (by show 4 ≤ sizeLine; decide), (fun z => by cases z), fun _ q hq => ?_⟩
      exact hyo _ q (Same.tr sH (Same.tr (same_new ht1) (Same.tr (same_new ht3) (Same.tr (same_new hp) (same_new hq))))) (by rw [upd_same]; rfl)
    | jump =>
      rw [ef] at hr hyo hq
      dsimp only at hq
      rw [hq] at hyo hno
      refine ⟨_, rfl, rfl, _, rfl, if_false_of rfl ?_⟩
      refine ⟨_, rfl, (by show 2 ≤ sizeLine; decide), fun t1 ht1 => ⟨t1, _, rfl, Or.inr (SqT.of upd_same), rfl, rfl, _, rfl, if_true_of rfl ?_⟩⟩
      have hyo := hyo rfl
      refine ⟨_, rfl, true, rfl, if_true_of rfl ?_⟩
      refine ⟨_, rfl, _, _, _, rfl, rfl, hr, ?_⟩
      refine ⟨_, rfl, (by show 1 ≤ sizeLine; decide), fun t3 ht3 => ⟨_, spR .jump, rfl, ⟨.jump, rfl, rfl⟩, _, rfl, _, rfl, v, rfl, hw0, hw1, fun p hp => ?_⟩⟩
      refine ⟨t3, p, _, _, rfl, rfl, SqT.of (by rw [upd_ne (ne_of_none upd_same hp)]; exact upd_same), SqT.of upd_same, (fun z => by cases z), (by show 4 ≤ sizeLine; decide), (fun z => by cases z), fun _ q hq => ?_⟩
      exact hyo _ q (Same.tr sH (Same.tr (same_new ht1) (Same.tr (same_new ht3) (Same.tr (same_new hp) (same_new hq))))) (by rw [upd_same]; rfl)
    | whole =>
      rw [ef] at hr hyo hq
      dsimp only at hq
      rw [hq] at hyo hno
      refine ⟨_, rfl, rfl, _, rfl, if_true_of rfl ?_⟩
      refine ⟨_, rfl, _, rfl, rfl, ?_⟩
      rw [dec_i]
      cases e1 : decide (v = pa o) with
      | true =>
        have hyo := hyo e1
        refine ⟨_, rfl, true, rfl, if_true_of rfl ?_⟩
        refine ⟨_, rfl, _, _, _, rfl, rfl, hr, ?_⟩
        refine ⟨_, rfl, (by show 1 ≤ sizeLine; decide), fun t3 ht3 => ⟨_, spR .whole, rfl, ⟨.whole, rfl, rfl⟩, _, rfl, _, rfl, v, rfl, hw0, hw1, fun p hp => ?_⟩⟩
        refine ⟨t3, p, _, _, rfl, rfl, SqT.of (by rw [upd_ne (ne_of_none upd_same hp)]; exact upd_same), SqT.of upd_same, (fun z => by cases z), (by show 4 ≤ sizeLine; decide), (fun z => by cases z), fun _ q hq => ?_⟩
        exact hyo _ q (Same.tr sH (Same.tr Same.rf (Same.tr (same_new ht3) (Same.tr (same_new hp) (same_new hq))))) (by rw [upd_same]; rfl)
      | false =>
        have hno := hno e1
        refine ⟨_, rfl, false, rfl, if_false_of rfl ?_⟩
        exact ⟨hno, Same.tr sH Same.rf, _, _, _, _, _, _, rfl⟩
end
end K82

namespace K82
open PySem PyProof.Rows L2 My Ru I6
open Builtin (bitAnd bitOr)
def sp__law_cell_at (K : PySem.W.Frag) : Sp := sp2 fun a b H Q _ => ∃ (l : Addr) (ns : List Int) (k : Int), a = .ref l ∧ b = .int k ∧ SqL K H l (ns.map V.int) ∧ 0 ≤ k ∧ k < 2 ^ 62 ∧ ∀ v : Int, Q (.int v) H
def sp__law_draw (K : PySem.W.Frag) : Sp := sp3 fun x y z H Q _ => ∃ c k b : Int, x = .int c ∧ y = .int k ∧ z = .int b ∧ (-(2 ^ 63) < c ∧ c < 2 ^ 63) ∧ 0 ≤ k ∧ k < 2 ^ 62 ∧ 0 < b ∧ ∀ (r : Int) (H' : Hp), 0 ≤ r → r < b → Same H H' → Q (.int r) H'
def sp__law_number (K : PySem.W.Frag) : Sp := sp3 fun x y z H Q _ => ∃ c k b : Int, x = .int c ∧ y = .int k ∧ z = .int b ∧ 0 ≤ k ∧ k ≤ 1000 ∧ 0 < b ∧ ∀ (r : Int) (H' : Hp), 0 ≤ r → r < b → Same H H' → Q (.int r) H'
def sp__law_next (K : PySem.W.Frag) : Sp := sp2 fun x y H Q _ => ∃ (d s : Addr) (ns : List Int) (n b : Int), x = .ref d ∧ y = .int b ∧ H d = some (.lst [.ref s, .int 0, .int n]) ∧ H s = some (.lst (ns.map V.int)) ∧ 0 ≤ n ∧ n ≤ 1000000 ∧ 0 < b ∧
  ∀ (r : Int) (H' : Hp), 0 ≤ r → r < b → ButL [d] H H' → H' d = some (.lst [.ref s, .int 0, .int (n + 1)]) → Q (.int r) H'
def sp__law_pick (K : PySem.W.Frag) : Sp := sp2 fun x y H Q _ => ∃ (d s : Addr) (ns : List Int) (n : Int) (t : Addr) (xs : List V), x = .ref d ∧ y = .ref t ∧ H d = some (.lst [.ref s, .int 0, .int n]) ∧ H s = some (.lst (ns.map V.int)) ∧ 0 ≤ n ∧ n ≤ 1000000 ∧ H t = some (.lst xs) ∧ t ≠ d ∧ xs ≠ [] ∧
  ∀ (v : V) (H' : Hp), v ∈ xs → ButL [d] H H' → H' d = some (.lst [.ref s, .int 0, .int (n + 1)]) → Q v H'
theorem ite2 {c : Prop} [Decidable c] {A B : Prop} (h1 : c → A) (h2 : ¬ c → B) : if decide c = true then A else B := by
  by_cases h : c
  · rw [decide_eq_true h, if_pos rfl]; exact h1 h
  · rw [decide_eq_false h, if_neg Bool.false_ne_true]; exact h2 h
/-- the size of a line at a place, by a list of long ones -/
theorem cut_ints (ns : List Int) (a b : Option Int) : ∃ ms : List Int, cutV (ns.map V.int) a b = ms.map V.int := by
  unfold cutV
  rw [← List.map_drop, ← List.map_take]
  exact ⟨_, rfl⟩
section
variable {P : Program} {w : World} {K : PySem.W.Frag} {mg : Str → Option Value} {base : Heap}
theorem sc__law_cell_at : FnScope ["script", "k"] ["script", "k"] (defScope s__law_cell_at) := ⟨rfl, rfl, rfl, by decide +kernel, rfl, by decide +kernel, by decide +kernel⟩
theorem g__law_cell_at (T : Txt K mg w)  : Gd P w K mg base CX0 1 "_law_cell_at" ["script", "k"] (sp__law_cell_at K) := by
  have sc := sc__law_cell_at
  refine T.d__law_cell_at.ok sc len2 (fun _ _ _ _ _ _ us hl => match us, hl with | [_, _], _ => rfl) (fun f cdv A outer s H vs Q E hr h => ?_)
  obtain ⟨x0, x1, rfl, h⟩ := h
  obtain ⟨a, ns, k, rfl, rfl, hS, hk0, hk1, h⟩ := h
  refine ⟨_, (pss_cons (ps_if (pt_cmpR op_lt (pv 1) (pe_callB call_len_seq (by rfl) T.n_len PySem.boot_len (pa_cons (pv 0) pa_nil)) (nomark _)) (pss_one (ps_ret (pe_ix ix_list (pv 0) (pv 1) (fun _ _ => rfl)))) pss_nil)
      (pss_one (ps_ret pe_int))), ?_⟩
  refine ⟨_, rfl, _, rfl, a, ns.map V.int, rfl, Or.inl hS, _, _, rfl, rfl, _, rfl, ?_⟩
  by_cases c : k < ((ns.map V.int).length : Int)
  · refine if_true_of (decide_eq_true c) ?_
    have hl : k.toNat < ns.length := by rw [List.length_map] at c; omega
    refine ⟨_, rfl, _, rfl, a, ns.map V.int, k, V.int ns[k.toNat], rfl, rfl, hS, at_of (j := k.toNat) (by omega) (by rw [List.getElem?_map, List.getElem?_eq_getElem hl] <;> rfl), h _⟩
  · refine if_false_of (decide_eq_false c) ?_
    exact h 0
theorem sc__law_draw : FnScope ["cell", "k", "bound", "primes"] ["cell", "k", "bound"] (defScope s__law_draw) := ⟨rfl, rfl, rfl, by decide +kernel, rfl, by decide +kernel, by decide +kernel⟩
theorem g__law_draw (T : Txt K mg w)  : Gd P w K mg base CX0 1 "_law_draw" ["cell", "k", "bound"] (sp__law_draw K) := by
  have sc := sc__law_draw
  refine T.d__law_draw.ok sc len3 (fun _ _ _ _ _ _ us hl => match us, hl with | [_, _, _], _ => rfl) (fun f cdv A outer s H vs Q E hr h => ?_)
  obtain ⟨x0, x1, x2, rfl, h⟩ := h
  obtain ⟨c, k, b, rfl, rfl, rfl, hc, hk0, hk1, hb, h⟩ := h
  refine ⟨_, (pss_cons (ps_set (i := 3) sc.nd rfl (Or.inl rfl) (pe_tup (pa_cons pe_int (pa_cons pe_int (pa_cons pe_int (pa_cons pe_int (pa_cons pe_int (pa_cons pe_int (pa_cons pe_int (pa_cons pe_int (pa_cons pe_int (pa_cons pe_int (pa_cons pe_int (pa_cons pe_int (pa_cons pe_int (pa_cons pe_int (pa_cons pe_int (pa_cons pe_int pa_nil))))))))))))))))))
      (pss_one (ps_ret (pe_op op_mod (pe_op op_mod (pe_callTy call_int1 (by rfl) T.n_int (by decide +kernel) (pa_cons (pe_op op_add (pe_op op_mul (pv 0) pe_int) (pe_op op_mul (pv 1) pe_int)) pa_nil)) (pe_ix ix_tup (pv 3) (pe_op op_mod (pe_callTy call_int1 (by rfl) T.n_int (by decide +kernel) (pa_cons (pv 1) pa_nil)) pe_int) (fun _ _ => rfl))) (pv 2))))), ?_⟩
  refine ⟨(by show 16 ≤ sizeLine; decide), fun p hp => ?_⟩
  refine ⟨_, rfl, _, _, rfl, rfl, Or.inr ⟨by decide, by decide⟩, _, rfl, _, _, rfl, rfl, Or.inr ⟨by decide, by decide⟩, _, _, rfl, rfl, Or.inl ⟨_, rfl, ?_⟩⟩
  refine ⟨_, rfl, _, rfl, Or.inl ⟨_, rfl, ?_⟩⟩
  refine ⟨_, _, rfl, rfl, (by show (0 : Int) < 16; decide), ?_⟩
  obtain ⟨j, hj, ej⟩ : ∃ j : Nat, j < 16 ∧ k % 16 = (j : Int) := ⟨(k % 16).toNat, by omega, by omega⟩
  obtain ⟨q, hq, hq0⟩ : ∃ q : Int, ([.int 1000003, .int 1000033, .int 1000037, .int 1000039, .int 1000081, .int 1000099, .int 1000117, .int 1000121, .int 1000133, .int 1000151, .int 1000159, .int 1000171, .int 1000183, .int 1000187, .int 1000193, .int 1000199] : List V)[j]? = some (.int q) ∧ 0 < q := by
    have : ∀ j : Nat, j < 16 → ∃ q : Int, ([.int 1000003, .int 1000033, .int 1000037, .int 1000039, .int 1000081, .int 1000099, .int 1000117, .int 1000121, .int 1000133, .int 1000151, .int 1000159, .int 1000171, .int 1000183, .int 1000187, .int 1000193, .int 1000199] : List V)[j]? = some (.int q) ∧ 0 < q := by
      intro j hj
      match j, hj with
      | 0, _ | 1, _ | 2, _ | 3, _ | 4, _ | 5, _ | 6, _ | 7, _ | 8, _ | 9, _ | 10, _ | 11, _ | 12, _ | 13, _ | 14, _ | 15, _ => exact ⟨_, rfl, by decide⟩
      | n + 16, h => omega
    exact this j hj
  refine ⟨p, _, _, _, rfl, rfl, SqT.of upd_same, at_of ej hq, ?_⟩
  refine ⟨_, _, rfl, rfl, hq0, _, rfl, _, _, rfl, rfl, hb, ?_⟩
  exact h _ _ (Int.emod_nonneg _ (by omega)) (Int.emod_lt_of_pos _ hb) (fun x o e => by rw [upd_ne (ne_of_none e hp)]; exact e)
theorem sc__law_number : FnScope ["cell", "k", "bound", "power", "lap", "remains", "small"] ["cell", "k", "bound"] (defScope s__law_number) := ⟨rfl, rfl, rfl, by decide +kernel, rfl, by decide +kernel, by decide +kernel⟩
theorem g__law_number (T : Txt K mg w) (G__law_draw : Gd P w K mg base CX0 1 "_law_draw" ["cell", "k", "bound"] (sp__law_draw K)) : Gd P w K mg base CX0 2 "_law_number" ["cell", "k", "bound"] (sp__law_number K) := by
  have sc := sc__law_number
  refine T.d__law_number.ok sc len3 (fun _ _ _ _ _ _ us hl => match us, hl with | [_, _, _], _ => rfl) (fun f cdv A outer s H vs Q E hr h => ?_)
  obtain ⟨x0, x1, x2, rfl, h⟩ := h
  obtain ⟨c, k, b, rfl, rfl, rfl, hk0, hk1, hb, h⟩ := h
  refine ⟨_, (pss_cons (ps_set (i := 3) sc.nd rfl (Or.inl rfl) pe_int)
      (pss_cons (ps_for PassesOwn.never rfl (pi_range1 rfl T.n_range (pa_cons (pe_op op_mod (pe_callTy call_int1 (by rfl) T.n_int (by decide +kernel) (pa_cons (pv 1) pa_nil)) pe_int) pa_nil)) (pg_name (i := 4) sc.nd rfl (Or.inl rfl)) (pss_one (ps_set (i := 3) sc.nd rfl (Or.inl rfl) (pe_op op_mul (pv 3) pe_int))))
      (pss_cons (ps_set (i := 5) sc.nd rfl (Or.inl rfl) (pe_op op_fdivW (pe_op op_sub (pv 0) (pe_op op_pow pe_int pe_int)) (pv 3)))
      (pss_cons (ps_if (pt_cmpR op_gt (pv 5) pe_int (nomark _)) (pss_one (ps_ret (pe_op op_mod (pe_op op_mod (pe_callTy call_int1 (by rfl) T.n_int (by decide +kernel) (pa_cons (pv 5) pa_nil)) pe_int) (pv 2)))) pss_nil)
      (pss_cons (ps_set (i := 6) sc.nd rfl (Or.inl rfl) (pe_op op_mod (pe_callTy call_int1 (by rfl) T.n_int (by decide +kernel) (pa_cons (pv 0) pa_nil)) pe_int))
      (pss_one (ps_ret (pe_op op_mod (pe_g G__law_draw (hr.mono (by omega)) pass0 (pa_cons (pe_op op_mul (pe_op op_add (pv 6) (pe_op op_mul pe_int (pv 1))) (pe_op op_add (pe_op op_add (pv 6) (pe_op op_mul pe_int (pv 1))) pe_int)) (pa_cons (pe_op op_add (pe_op op_mod (pe_callTy call_int1 (by rfl) T.n_int (by decide +kernel) (pa_cons (pv 1) pa_nil)) pe_int) pe_int) (pa_cons pe_int pa_nil)))) (pv 2))))))))), ?_⟩
  refine ⟨_, rfl, Or.inl ⟨_, rfl, ?_⟩⟩
  refine ⟨_, _, rfl, rfl, (by show (0 : Int) < 24; decide), k % 24, rfl, by omega, by omega, ?_⟩
  refine for_range (n := (k % 24).toNat) (fun i σ H' => H' = H ∧ ∃ v : Option V, σ = [some (.int c), some (.int k), some (.int b), some (.int (1009 ^ i)), v, none, none]) ⟨rfl, _, rfl⟩ ?_ ?_
  · rintro i σ H' hi ⟨rfl, v, rfl⟩
    refine ⟨_, rfl, _, _, rfl, rfl, Or.inr ⟨by decide, by decide⟩, rfl, some (.int (0 + (i : Int))), ?_⟩
    show _ = ([some (.int c), some (.int k), some (.int b), some (.int (1009 ^ (i + 1))), some (.int (0 + (i : Int))), none, none] : List (Option V))
    rw [Int.pow_succ]
    all_goals rfl
  · rintro σ H' ⟨rfl, v, rfl⟩
    have hj : (k % 24).toNat < 24 := by omega
    have hp : (0 : Int) < 1009 ^ (k % 24).toNat := Int.pow_pos (by decide)
    have hpb : ((1009 : Int) ^ (k % 24).toNat).natAbs < 2 ^ 240 := by
      rw [Int.natAbs_pow]
      exact Nat.lt_of_le_of_lt (Nat.pow_le_pow_right (by decide) (show (k % 24).toNat ≤ 23 by omega)) (by decide : (1009 : Int).natAbs ^ 23 < 2 ^ 240)
    refine ⟨_, rfl, _, _, rfl, rfl, ⟨by decide, by decide, by decide⟩, _, _, rfl, rfl, _, rfl, _, _, rfl, rfl, wide_div hp hpb (by decide) (by decide), ?_⟩
    refine ⟨_, rfl, _, _, rfl, rfl, _, rfl, ?_⟩
    refine ite2 (fun _ => ?_) (fun _ => ?_)
    · refine ⟨_, rfl, Or.inl ⟨_, rfl, ?_⟩⟩
      refine ⟨_, _, rfl, rfl, (by show (0 : Int) < 1009; decide), _, rfl, _, _, rfl, rfl, hb, ?_⟩
      exact h _ _ (Int.emod_nonneg _ (by omega)) (Int.emod_lt_of_pos _ hb) (fun _ _ e => e)
    · refine ⟨_, rfl, Or.inl ⟨_, rfl, ?_⟩⟩
      refine ⟨_, _, rfl, rfl, (by show (0 : Int) < 1000003; decide), ?_⟩
      have h1 : 0 ≤ c % 1000003 := Int.emod_nonneg _ (by decide)
      have h2 : c % 1000003 < 1000003 := Int.emod_lt_of_pos _ (by decide)
      refine ⟨_, rfl, _, rfl, _, _, rfl, rfl, Or.inr ⟨by omega, by omega⟩, _, _, rfl, rfl, ?_⟩
      refine ⟨_, rfl, _, rfl, _, _, rfl, rfl, Or.inr ⟨by omega, by omega⟩, _, _, rfl, rfl, _, _, rfl, rfl, _, _, rfl, rfl, Or.inl ⟨by omega, by omega⟩, ?_⟩
      refine ⟨_, rfl, Or.inl ⟨_, rfl, ?_⟩⟩
      refine ⟨_, _, rfl, rfl, (by show (0 : Int) < 9; decide), _, _, rfl, rfl, ?_⟩
      refine ⟨_, _, _, rfl, _, _, _, rfl, rfl, rfl, ?_, by omega, by omega, by decide, fun r H1 hr0 hr1 e1 => ?_⟩
      · constructor
        · have := Int.mul_nonneg (show 0 ≤ c % 1000003 + 977 * k by omega) (show 0 ≤ c % 1000003 + 31 * k + 5 by omega); omega
        · have := Int.mul_le_mul (show c % 1000003 + 977 * k ≤ 3000003 by omega) (show c % 1000003 + 31 * k + 5 ≤ 3000003 by omega) (by omega) (by omega); omega
      refine ⟨_, rfl, _, _, rfl, rfl, hb, ?_⟩
      exact h _ _ (Int.emod_nonneg _ (by omega)) (Int.emod_lt_of_pos _ hb) e1
theorem sc__law_next : FnScope ["draw", "bound", "at", "cell"] ["draw", "bound"] (defScope s__law_next) := ⟨rfl, rfl, rfl, by decide +kernel, rfl, by decide +kernel, by decide +kernel⟩
theorem g__law_next (T : Txt K mg w) (G__law_cell_at : Gd P w K mg base CX0 1 "_law_cell_at" ["script", "k"] (sp__law_cell_at K)) (G__law_number : Gd P w K mg base CX0 2 "_law_number" ["cell", "k", "bound"] (sp__law_number K)) : Gd P w K mg base CX0 3 "_law_next" ["draw", "bound"] (sp__law_next K) := by
  have sc := sc__law_next
  refine T.d__law_next.ok sc len2 (fun _ _ _ _ _ _ us hl => match us, hl with | [_, _], _ => rfl) (fun f cdv A outer s H vs Q E hr h => ?_)
  obtain ⟨x0, x1, rfl, h⟩ := h
  obtain ⟨d, s, ns, n, b, rfl, rfl, hd, hs, hn0, hn1, hb, h⟩ := h
  refine ⟨_, (pss_cons (ps_asg (pe_op op_add (pe_ix ix_list (pv 0) pe_int (fun _ _ => rfl)) pe_int) (pg_sub (pv 0) pe_int set_list))
      (pss_cons (ps_set (i := 2) sc.nd rfl (Or.inl rfl) (pe_op op_fdiv (pe_ix ix_list (pv 0) pe_int (fun _ _ => rfl)) pe_int))
      (pss_cons (ps_set (i := 3) sc.nd rfl (Or.inl rfl) (pe_op op_add (pe_g G__law_cell_at (hr.mono (by omega)) pass0 (pa_cons (pe_ix ix_list (pv 0) pe_int (fun _ _ => rfl)) (pa_cons (pe_op op_add (pe_ix ix_list (pv 0) pe_int (fun _ _ => rfl)) (pv 2)) pa_nil))) (pe_op op_mul pe_int (pv 2))))
      (pss_one (ps_ret (pe_g G__law_number (hr.mono (by omega)) pass0 (pa_cons (pv 3) (pa_cons (pe_op op_add (pe_op op_mod (pe_callTy call_int1 (by rfl) T.n_int (by decide +kernel) (pa_cons (pe_ix ix_list (pv 0) pe_int (fun _ _ => rfl)) pa_nil)) pe_int) pe_int) (pa_cons (pv 1) pa_nil))))))))), ?_⟩
  have hds : d ≠ s := ne_of hd hs (by intro z; cases ns <;> cases z)
  refine ⟨_, rfl, d, _, _, _, rfl, rfl, SqL.of hd, at_of (j := 2) rfl rfl, _, _, rfl, rfl, _, rfl, d, _, _, 2, rfl, rfl, hd, rfl, ?_⟩
  show ∃ v, _ ∧ _
  refine ⟨_, rfl, d, _, _, _, rfl, rfl, SqL.of upd_same, at_of (j := 2) rfl rfl, _, _, rfl, rfl, ⟨by decide, by decide⟩, ?_⟩
  refine ⟨_, rfl, d, _, _, _, rfl, rfl, SqL.of upd_same, at_of (j := 0) rfl rfl, _, rfl, d, _, _, _, rfl, rfl, SqL.of upd_same, at_of (j := 1) rfl rfl, _, rfl, _, _, rfl, rfl, ?_⟩
  refine ⟨_, _, rfl, _, ns, _, rfl, rfl, SqL.of (by rw [upd_ne hds.symm]; exact hs), by omega, by omega, fun v => ?_⟩
  refine ⟨_, rfl, _, _, rfl, rfl, Or.inr ⟨by omega, by omega⟩, _, _, rfl, rfl, ?_⟩
  refine ⟨_, rfl, _, rfl, d, _, _, _, rfl, rfl, SqL.of upd_same, at_of (j := 2) rfl rfl, Or.inl ⟨_, rfl, ?_⟩⟩
  refine ⟨_, _, rfl, rfl, (by show (0 : Int) < 12; decide), _, _, rfl, rfl, _, rfl, ?_⟩
  refine ⟨_, _, _, rfl, _, _, _, rfl, rfl, rfl, by omega, by omega, hb, fun r H1 h0 h1 e1 => ?_⟩
  refine h r H1 h0 h1 (fun x o e hx => e1 _ _ (by rw [upd_ne (fun z => hx (by simp [z]))]; exact e)) ?_
  exact e1 _ _ upd_same
theorem sc__law_pick : FnScope ["draw", "things"] ["draw", "things"] (defScope s__law_pick) := ⟨rfl, rfl, rfl, by decide +kernel, rfl, by decide +kernel, by decide +kernel⟩
theorem g__law_pick (T : Txt K mg w) (G__law_next : Gd P w K mg base CX0 3 "_law_next" ["draw", "bound"] (sp__law_next K)) : Gd P w K mg base CX0 4 "_law_pick" ["draw", "things"] (sp__law_pick K) := by
  have sc := sc__law_pick
  refine T.d__law_pick.ok sc len2 (fun _ _ _ _ _ _ us hl => match us, hl with | [_, _], _ => rfl) (fun f cdv A outer s H vs Q E hr h => ?_)
  obtain ⟨x0, x1, rfl, h⟩ := h
  obtain ⟨d, s, ns, n, t, xs, rfl, rfl, hd, hs, hn0, hn1, ht, hdt, hx, h⟩ := h
  refine ⟨_, (pss_one (ps_ret (pe_ix ix_list (pv 1) (pe_g G__law_next (hr.mono (by omega)) pass0 (pa_cons (pv 0) (pa_cons (pe_callB call_len_seq (by rfl) T.n_len PySem.boot_len (pa_cons (pv 1) pa_nil)) pa_nil))) (fun _ _ => rfl)))), ?_⟩
  have hl : 0 < xs.length := List.length_pos_iff.mpr hx
  refine ⟨_, rfl, _, rfl, _, rfl, t, xs, rfl, Or.inl (SqL.of ht), ?_⟩
  refine ⟨_, _, rfl, d, s, ns, n, _, rfl, rfl, hd, hs, hn0, hn1, by omega, fun r H1 h0 h1 e1 e2 => ?_⟩
  have hj : r.toNat < xs.length := by omega
  refine ⟨t, xs, r, xs[r.toNat], rfl, rfl, SqL.of (e1 _ _ ht (by simpa using hdt)), at_of (j := r.toNat) (by omega) (List.getElem?_eq_getElem hj), ?_⟩
  exact h _ H1 (List.getElem_mem hj) e1 e2
end
end K82

namespace K82
open PySem PyProof.Rows L2 My Ru I6
open Builtin (bitAnd bitOr)
theorem m32 (x : Int) : bitAnd x 4294967295 = x % 4294967296 := PySem.W.kbt_mask x 32
theorem m2 (x : Int) : bitAnd x 3 = x % 4 := PySem.W.kbt_mask x 2
theorem im_len {α : Type} (ws : List α) (f : α → V) : (ws.map f).length = ws.length := List.length_map f
theorem bl_eq (p q : Bool) : decide (V.bl p = V.bl q) = (p == q) := by cases p <;> cases q <;> rfl
theorem br_cases {o : Nat} (h : isBr o = true) : o = 36 ∨ o = 37 ∨ o = 38 ∨ o = 39 ∨ o = 40 ∨ o = 41 := by
  unfold isBr at h
  obtain ⟨h1, h2⟩ := Bool.and_eq_true_iff.mp h
  have h1 := of_decide_eq_true h1
  have h2 := of_decide_eq_true h2
  omega
theorem beq_t (p q : Bool) (h : q = true) : (p == q) = p := by rw [h]; cases p <;> rfl
theorem beq_f (p q : Bool) (h : q = false) : (p == q) = !p := by rw [h]; cases p <;> rfl
section
variable {P : Program} {w : World} {K : PySem.W.Frag} {mg : Str → Option Value} {base : Heap}
theorem sc_word_of : FnScope ["number"] ["number"] (defScope s_word_of) := ⟨rfl, rfl, rfl, by decide +kernel, rfl, by decide +kernel, by decide +kernel⟩
theorem g_word_of (T : Txt K mg w)  : Gd P w K mg base CX0 1 "word_of" ["number"] (sp_word_of K) := by
  have sc := sc_word_of
  refine T.d_word_of.ok sc len1 (fun _ _ _ _ _ _ us hl => match us, hl with | [_], _ => rfl) (fun f cdv A outer s H vs Q E hr h => ?_)
  obtain ⟨x0, rfl, h⟩ := h
  obtain ⟨n, rfl, h⟩ := h
  refine ⟨_, (pss_one (ps_ret (pe_op op_and (pv 0) (pe_gint T.c_GREATEST)))), ?_⟩
  refine ⟨_, rfl, _, _, rfl, rfl, ?_⟩
  show Q (.int (bitAnd n 4294967295)) H
  rw [m32]
  exact h
theorem sc__behind : FnScope ["address"] ["address"] (defScope s__behind) := ⟨rfl, rfl, rfl, by decide +kernel, rfl, by decide +kernel, by decide +kernel⟩
theorem g__behind (T : Txt K mg w)  : Gd P w K mg base CX0 1 "_behind" ["address"] (sp__behind K) := by
  have sc := sc__behind
  refine T.d__behind.ok sc len1 (fun _ _ _ _ _ _ us hl => match us, hl with | [_], _ => rfl) (fun f cdv A outer s H vs Q E hr h => ?_)
  obtain ⟨x0, rfl, h⟩ := h
  obtain ⟨n, rfl, h⟩ := h
  refine ⟨_, (pss_one (ps_ret (pe_op op_mul (pe_op op_fdiv (pe_op op_sub (pe_op op_add (pv 0) (pe_gint T.c_STEP)) pe_int) (pe_gint T.c_STEP)) (pe_gint T.c_STEP)))), ?_⟩
  refine ⟨_, rfl, _, _, rfl, rfl, _, _, rfl, rfl, _, _, rfl, rfl, ⟨by decide, by decide⟩, _, _, rfl, rfl, Or.inr ⟨by decide, by decide⟩, ?_⟩
  show Q (.int ((n + 16 - 1) / 16 * 16)) H
  unfold bh at h
  rw [show n + 16 - 1 = n + 15 by omega]
  exact h
theorem sc_data_start : FnScope ["image"] ["image"] (defScope s_data_start) := ⟨rfl, rfl, rfl, by decide +kernel, rfl, by decide +kernel, by decide +kernel⟩
theorem g_data_start (T : Txt K mg w) (G__behind : Gd P w K mg base CX0 1 "_behind" ["address"] (sp__behind K)) : Gd P w K mg base CX0 2 "data_start" ["image"] (sp_data_start K) := by
  have sc := sc_data_start
  refine T.d_data_start.ok sc len1 (fun _ _ _ _ _ _ us hl => match us, hl with | [_], _ => rfl) (fun f cdv A outer s H vs Q E hr h => ?_)
  obtain ⟨x0, rfl, h⟩ := h
  obtain ⟨p, wa, da, pl, tr, ws, ds, ps, stk, b, rfl, im, h⟩ := h
  obtain ⟨v5, v6, e⟩ := im.at_
  refine ⟨_, (pss_one (ps_ret (pe_g G__behind (hr.mono (by omega)) pass0 (pa_cons (pe_op op_add (pe_ix ix_tup (pv 0) pe_int (fun _ _ => rfl)) (pe_op op_mul (pe_gint T.c_BYTES_linking) (pe_callB call_len_seq (by rfl) T.n_len PySem.boot_len (pa_cons (pe_ix ix_tup (pv 0) pe_int (fun _ _ => rfl)) pa_nil)))) pa_nil)))), ?_⟩
  refine ⟨_, rfl, p, _, 8, _, rfl, rfl, SqT.of e, rfl, _, rfl, p, _, 0, _, rfl, rfl, SqT.of e, rfl, wa, _, rfl, Or.inr im.w, _, _, rfl, rfl, Or.inl ⟨by decide, by decide⟩, _, _, rfl, rfl, _, rfl, ?_⟩
  rw [im_len]
  exact ⟨_, rfl, h⟩
theorem sc_stack_start : FnScope ["image"] ["image"] (defScope s_stack_start) := ⟨rfl, rfl, rfl, by decide +kernel, rfl, by decide +kernel, by decide +kernel⟩
theorem g_stack_start (T : Txt K mg w) (G__behind : Gd P w K mg base CX0 1 "_behind" ["address"] (sp__behind K)) (G_data_start : Gd P w K mg base CX0 2 "data_start" ["image"] (sp_data_start K)) : Gd P w K mg base CX0 3 "stack_start" ["image"] (sp_stack_start K) := by
  have sc := sc_stack_start
  refine T.d_stack_start.ok sc len1 (fun _ _ _ _ _ _ us hl => match us, hl with | [_], _ => rfl) (fun f cdv A outer s H vs Q E hr h => ?_)
  obtain ⟨x0, rfl, h⟩ := h
  obtain ⟨p, wa, da, pl, tr, ws, ds, ps, stk, b, rfl, im, h⟩ := h
  obtain ⟨v5, v6, e⟩ := im.at_
  refine ⟨_, (pss_one (ps_ret (pe_g G__behind (hr.mono (by omega)) pass0 (pa_cons (pe_op op_add (pe_g G_data_start (hr.mono (by omega)) pass0 (pa_cons (pv 0) pa_nil)) (pe_op op_mul (pe_gint T.c_BYTES_linking) (pe_callB call_len_seq (by rfl) T.n_len PySem.boot_len (pa_cons (pe_ix ix_tup (pv 0) pe_int (fun _ _ => rfl)) pa_nil)))) pa_nil)))), ?_⟩
  refine ⟨_, rfl, _, rfl, p, wa, da, pl, tr, ws, ds, ps, stk, b, rfl, im, ?_⟩
  refine ⟨_, rfl, p, _, 1, _, rfl, rfl, SqT.of e, rfl, da, _, rfl, Or.inr im.d, _, _, rfl, rfl, Or.inl ⟨by decide, by decide⟩, _, _, rfl, rfl, _, rfl, ⟨_, rfl, h⟩⟩
end
end K82

namespace K82
open PySem PyProof.Rows L2 My Ru I6
open Builtin (bitAnd bitOr)
theorem Txt.cls {K : PySem.W.Frag} {mg : Str → Option Value} {w : World} (T : Txt K mg w) {C : Addr} (h : C = CM K ∨ C = CR K) : Cls K C := by
  rcases h with rfl | rfl
  · exact T.cl_Machine.c
  · exact T.cl_ReadyMachine.c
theorem Txt.na {K : PySem.W.Frag} {mg : Str → Option Value} {w : World} (T : Txt K mg w) {C : Addr} (h : C = CM K ∨ C = CR K) {f : Str} (hf : f ∈ macF) : NoAttr K C f := by
  rcases h with rfl | rfl
  · exact T.na_Machine f hf
  · exact T.na_ReadyMachine f hf
theorem lk_words (m : Mc) : (mfs m).lookup ("words" : Str) = some (V.ref m.wa) := rfl
theorem mf_words : ("words" : Str) ∈ macF := by decide +kernel
theorem lk_start (m : Mc) : (mfs m).lookup ("start" : Str) = some (V.int m.st) := rfl
theorem mf_start : ("start" : Str) ∈ macF := by decide +kernel
theorem lk_places (m : Mc) : (mfs m).lookup ("places" : Str) = some (V.ref m.pl) := rfl
theorem mf_places : ("places" : Str) ∈ macF := by decide +kernel
theorem lk_traps (m : Mc) : (mfs m).lookup ("traps" : Str) = some (V.ref m.tr) := rfl
theorem mf_traps : ("traps" : Str) ∈ macF := by decide +kernel
theorem lk_inputs (m : Mc) : (mfs m).lookup ("inputs" : Str) = some (V.ref m.inp) := rfl
theorem mf_inputs : ("inputs" : Str) ∈ macF := by decide +kernel
theorem lk_taken (m : Mc) : (mfs m).lookup ("taken" : Str) = some (V.int m.tk) := rfl
theorem mf_taken : ("taken" : Str) ∈ macF := by decide +kernel
theorem lk_memory (m : Mc) : (mfs m).lookup ("memory" : Str) = some (V.ref m.me) := rfl
theorem mf_memory : ("memory" : Str) ∈ macF := by decide +kernel
theorem lk_pc (m : Mc) : (mfs m).lookup ("pc" : Str) = some (V.int m.pc) := rfl
theorem mf_pc : ("pc" : Str) ∈ macF := by decide +kernel
theorem lk_next_pc (m : Mc) : (mfs m).lookup ("next_pc" : Str) = some (V.int m.nx) := rfl
theorem mf_next_pc : ("next_pc" : Str) ∈ macF := by decide +kernel
theorem lk_registers (m : Mc) : (mfs m).lookup ("registers" : Str) = some (V.ref m.rg) := rfl
theorem mf_registers : ("registers" : Str) ∈ macF := by decide +kernel
theorem lk_outputs (m : Mc) : (mfs m).lookup ("outputs" : Str) = some (V.ref m.ou) := rfl
theorem mf_outputs : ("outputs" : Str) ∈ macF := by decide +kernel
theorem lk_steps (m : Mc) : (mfs m).lookup ("steps" : Str) = some (V.int m.sp) := rfl
theorem mf_steps : ("steps" : Str) ∈ macF := by decide +kernel
theorem lk_ended (m : Mc) : (mfs m).lookup ("ended" : Str) = some (m.en) := rfl
theorem mf_ended : ("ended" : Str) ∈ macF := by decide +kernel
theorem mf_instructions : ("instructions" : Str) ∈ macF := by decide +kernel
theorem lk_put {m : Mc} (x : xsOk m.xs) : (mfs m).lookup ("put" : Str) = none := by
  unfold mfs
  rcases x with e | ⟨i, e⟩ <;> rw [e] <;> rfl
theorem lk_word_number {m : Mc} (x : xsOk m.xs) : (mfs m).lookup ("word_number" : Str) = none := by
  unfold mfs
  rcases x with e | ⟨i, e⟩ <;> rw [e] <;> rfl
theorem lk_step {m : Mc} (x : xsOk m.xs) : (mfs m).lookup ("step" : Str) = none := by
  unfold mfs
  rcases x with e | ⟨i, e⟩ <;> rw [e] <;> rfl
theorem lk_go {m : Mc} (x : xsOk m.xs) : (mfs m).lookup ("go" : Str) = none := by
  unfold mfs
  rcases x with e | ⟨i, e⟩ <;> rw [e] <;> rfl
theorem pf_pc (m : Mc) (v : Int) : putF "pc" (.int v) (mfs m) = mfs { m with pc := v } := rfl
theorem pf_next_pc (m : Mc) (v : Int) : putF "next_pc" (.int v) (mfs m) = mfs { m with nx := v } := rfl
theorem pf_taken (m : Mc) (v : Int) : putF "taken" (.int v) (mfs m) = mfs { m with tk := v } := rfl
theorem lk_field_at {m : Mc} (x : xsOk m.xs) : (mfs m).lookup ("field_at" : Str) = none := by
  unfold mfs
  rcases x with e | ⟨i, e⟩ <;> rw [e] <;> rfl
theorem lk_go_astray {m : Mc} (x : xsOk m.xs) : (mfs m).lookup ("go_astray" : Str) = none := by
  unfold mfs
  rcases x with e | ⟨i, e⟩ <;> rw [e] <;> rfl
theorem pf_steps (m : Mc) (v : Int) : putF "steps" (.int v) (mfs m) = mfs { m with sp := v } := rfl
theorem pf_ended (m : Mc) (v : V) : putF "ended" v (mfs m) = mfs { m with en := v } := rfl
theorem mfs_len {m : Mc} (x : xsOk m.xs) : (mfs m).length < 1000 := by
  unfold mfs
  rcases x with e | ⟨i, e⟩ <;> rw [e] <;> simp
theorem putR_len (regs : List Int) (g v : Int) : (putR regs g v).length = regs.length := by
  unfold putR
  split
  · rfl
  · exact List.length_set
theorem ixN_at {n i : Nat} (h : i < n) : ixN n (i : Int) = some i := by
  unfold ixN
  rw [if_pos (Int.natCast_nonneg i), Int.toNat_natCast, if_pos (by omega)]
/-- a comprehension of a dict over whatever walks -/
theorem ixN_int {n : Nat} {k : Int} (h0 : 0 ≤ k) (h1 : k < n) : ixN n k = some k.toNat := by
  have e : k = (k.toNat : Int) := by omega
  have := ixN_at (n := n) (i := k.toNat) (by omega)
  rw [← e] at this
  exact this
theorem regs_at {regs : List Int} {k : Int} (h0 : 0 ≤ k) (h1 : k < regs.length) : atI (regs.map V.int) k = some (.int (rgAt regs k)) := by
  have hl : k.toNat < regs.length := by omega
  refine at_of (j := k.toNat) (by omega) ?_
  unfold rgAt
  rw [List.getElem?_map, List.getElem?_eq_getElem hl, List.getD_eq_getElem?_getD, List.getElem?_eq_getElem hl]
  rfl
theorem map_set_int (l : List Int) (j : Nat) (v : Int) : (l.map V.int).set j (V.int v) = (l.set j v).map V.int := by rw [List.map_set]
theorem SqT.but4 {K : PySem.W.Frag} {H H' : Hp} {a p C dx r q t : Addr} {fs : List (Str × V)} {xs ys zs us : List V} (b : ButL [a, r, q, t] H H') (e : H a = some (.ins C dx fs)) (f : H r = some (.lst ys)) (g : H q = some (.lst zs)) (k : H t = some (.lst us)) (h : SqT K H p xs) : SqT K H' p xs := by
  rcases h with (h | ⟨o, h⟩) | h
  · exact .inl (.inl (b _ _ h (by simp; exact ⟨ne_of h e (fun z => by cases z), ne_of h f (fun z => by cases z), ne_of h g (fun z => by cases z), ne_of h k (fun z => by cases z)⟩)))
  · exact .inl (.inr ⟨o, b _ _ h (by simp; exact ⟨ne_of h e (fun z => by cases z), ne_of h f (fun z => by cases z), ne_of h g (fun z => by cases z), ne_of h k (fun z => by cases z)⟩)⟩)
  · exact .inr h
theorem SqT.same {K : PySem.W.Frag} {H H' : Hp} {p : Addr} {xs : List V} (s : Same H H') (h : SqT K H p xs) : SqT K H' p xs := by
  rcases h with (h | ⟨o, h⟩) | h
  · exact .inl (.inl (s _ _ h))
  · exact .inl (.inr ⟨o, s _ _ h⟩)
  · exact .inr h
theorem InsL.keep {H H' : Hp} {ws : List Int} {n : Nat} {vs : List V} (h : InsL H ws n vs) (k : ∀ p xs, H p = some (.tup xs) → H' p = some (.tup xs)) : InsL H' ws n vs :=
  ⟨h.1, fun i hi w hw => ⟨(h.2 i hi w hw).1, fun o ho => by
    obtain ⟨p, e1, e2⟩ := (h.2 i hi w hw).2 o ho
    exact ⟨p, e1, k _ _ e2⟩⟩⟩
section
variable {K : PySem.W.Frag} {H H' : Hp} {a C dx : Addr} {m m' : Mc} {mm : Mm} {c : Cfg} {s s' : PS}
theorem MS.tup4 (S : MS K H a C dx m mm c s) (bt : ButL [a, m.rg, mm.da, mm.sa] H H') {p : Addr} {xs : List V} (h : H p = some (.tup xs)) : H' p = some (.tup xs) :=
  bt _ _ h (by simp; exact ⟨ne_of h S.M.at_ (fun z => by cases z), ne_of h S.M.rg (fun z => by cases z), ne_of h S.da (fun z => by cases z), ne_of h S.sa (fun z => by cases z)⟩)
theorem MS.en4 (S : MS K H a C dx m mm c s) (bt : ButL [a, m.rg, mm.da, mm.sa] H H') : (s.en = none ∧ m.en = .non) ∨ ∃ vs t, s.en = some vs ∧ m.en = .ref t ∧ H' t = some (.tup vs) := by
  rcases S.en with h | ⟨vs, t, h1, h2, h3⟩
  · exact .inl h
  · exact .inr ⟨vs, t, h1, h2, S.tup4 bt h3⟩
theorem MS.on (S : MS K H a C dx m mm c s) (bt : ButL [a, m.rg, mm.da, mm.sa] H H') (e : H' a = some (.ins C dx (mfs m'))) (f : H' m.rg = some (.lst (s'.regs.map V.int))) (g1 : H' mm.da = some (.lst (s'.dat.map V.int))) (g2 : H' mm.sa = some (.lst (s'.stk.map V.int)))
    (hm : m' = ⟨m.wa, m.pl, m.tr, m.inp, m.me, m.rg, m.ou, m.st, m.tk, s'.pc, s'.nx, s'.sp, m'.en, m.xs⟩) (l : s'.regs.length = 32)
    (en : (s'.en = none ∧ m'.en = .non) ∨ ∃ vs t, s'.en = some vs ∧ m'.en = .ref t ∧ H' t = some (.tup vs)) : MS K H' a C dx m' mm c s' ∧ FR H H' a mm m m' := by
  have q1 : m'.wa = m.wa := by rw [hm]
  have q4 : m'.me = m.me := by rw [hm]
  have q5 : m'.rg = m.rg := by rw [hm]
  have q7 : m'.st = m.st := by rw [hm]
  have q8 : m'.xs = m.xs := by rw [hm]
  obtain ⟨dm, hme⟩ := S.me
  refine ⟨⟨⟨e, S.M.cl, by rw [q5]; exact f, l, by rw [q5]; exact S.M.ne, by rw [q8]; exact S.M.xo⟩, by rw [hm], by rw [hm], by rw [hm], en, ⟨dm, ?_⟩, by rw [q4]; exact S.nme, g1, g2, by rw [q5]; exact S.n1, by rw [q5]; exact S.n2, S.n3, by rw [q1]; exact SqT.but4 bt S.M.at_ S.M.rg S.da S.sa S.w, by rw [q7]; exact S.st, fun hC => ?_⟩, ⟨bt, q5⟩⟩
  · rw [q4]
    exact bt _ _ hme (by simp; exact ⟨S.nme, ne_of hme S.M.rg (fun z => by cases z), ne_of hme S.da (fun z => by cases z), ne_of hme S.sa (fun z => by cases z)⟩)
  · obtain ⟨l, vs, z1, z2, z3, z4, z6, z5⟩ := S.cr hC
    rw [q5, q8]
    exact ⟨l, vs, z1, bt _ _ z2 (by simp; exact ⟨ne_of z2 S.M.at_ (fun z => by cases z), z3, z4, z6⟩), z3, z4, z6, z5.keep fun p xs h => S.tup4 bt h⟩
theorem mc_eta (m : Mc) (pc nx sp : Int) (h2 : m.pc = pc) (h3 : m.nx = nx) (h4 : m.sp = sp) : m = ⟨m.wa, m.pl, m.tr, m.inp, m.me, m.rg, m.ou, m.st, m.tk, pc, nx, sp, m.en, m.xs⟩ := by
  subst h2 h3 h4; rfl
theorem ne4 (S : MS K H a C dx m mm c s) : m.rg ≠ a ∧ mm.da ≠ a ∧ mm.sa ≠ a := ⟨S.M.ne, ne_of S.da S.M.at_ (fun z => by cases z), ne_of S.sa S.M.at_ (fun z => by cases z)⟩
theorem MS.fld (S : MS K H a C dx m mm c s) (hm : m' = ⟨m.wa, m.pl, m.tr, m.inp, m.me, m.rg, m.ou, m.st, m.tk, s'.pc, s'.nx, s'.sp, m.en, m.xs⟩) (hr : s'.regs = s.regs) (h1 : s'.dat = s.dat) (h2 : s'.stk = s.stk) (he : s'.en = s.en) :
    MS K (upd H a (.ins C dx (mfs m'))) a C dx m' mm c s' ∧ FR H (upd H a (.ins C dx (mfs m'))) a mm m m' := by
  obtain ⟨n1, n2, n3⟩ := ne4 S
  have bt : ButL [a, m.rg, mm.da, mm.sa] H (upd H a (.ins C dx (mfs m'))) := ButL.put (by simp)
  have q : m'.en = m.en := by rw [hm]
  refine S.on bt upd_same (by rw [upd_ne n1, hr]; exact S.M.rg) (by rw [upd_ne n2, h1]; exact S.da) (by rw [upd_ne n3, h2]; exact S.sa) (by rw [q]; exact hm) (by rw [hr]; exact S.M.ln) ?_
  rw [he, q]
  exact S.en4 bt
theorem MS.fpc (S : MS K H a C dx m mm c s) (v u : Int) (e : v = u) : MS K (upd H a (.ins C dx (mfs { m with pc := v }))) a C dx { m with pc := v } mm c { s with pc := u } ∧ FR H (upd H a (.ins C dx (mfs { m with pc := v }))) a mm m { m with pc := v } :=
  S.fld (s' := { s with pc := u }) (mc_eta { m with pc := v } _ _ _ e S.nx S.sp) rfl rfl rfl rfl
theorem MS.fnx (S : MS K H a C dx m mm c s) (v u : Int) (e : v = u) : MS K (upd H a (.ins C dx (mfs { m with nx := v }))) a C dx { m with nx := v } mm c { s with nx := u } ∧ FR H (upd H a (.ins C dx (mfs { m with nx := v }))) a mm m { m with nx := v } :=
  S.fld (s' := { s with nx := u }) (mc_eta { m with nx := v } _ _ _ S.pc e S.sp) rfl rfl rfl rfl
theorem MS.fsp (S : MS K H a C dx m mm c s) (v u : Int) (e : v = u) : MS K (upd H a (.ins C dx (mfs { m with sp := v }))) a C dx { m with sp := v } mm c { s with sp := u } ∧ FR H (upd H a (.ins C dx (mfs { m with sp := v }))) a mm m { m with sp := v } :=
  S.fld (s' := { s with sp := u }) (mc_eta { m with sp := v } _ _ _ S.pc S.nx e) rfl rfl rfl rfl
theorem MS.fen (S : MS K H a C dx m mm c s) {t : Addr} {vs : List V} (ht : H t = none) : MS K (upd (upd H t (.tup vs)) a (.ins C dx (mfs { m with en := .ref t }))) a C dx { m with en := .ref t } mm c { s with en := some vs } ∧ FR H (upd (upd H t (.tup vs)) a (.ins C dx (mfs { m with en := .ref t }))) a mm m { m with en := .ref t } := by
  obtain ⟨n1, n2, n3⟩ := ne4 S
  have na : t ≠ a := (ne_of_none S.M.at_ ht).symm
  have bt : ButL [a, m.rg, mm.da, mm.sa] H (upd (upd H t (.tup vs)) a (.ins C dx (mfs { m with en := .ref t }))) := ButL.trans (ButL.same (same_new ht)) (ButL.put (by simp))
  exact S.on (s' := { s with en := some vs }) bt upd_same (by rw [upd_ne n1]; exact same_new ht _ _ S.M.rg) (by rw [upd_ne n2]; exact same_new ht _ _ S.da) (by rw [upd_ne n3]; exact same_new ht _ _ S.sa) (mc_eta { m with en := .ref t } _ _ _ S.pc S.nx S.sp) S.M.ln (.inr ⟨vs, t, rfl, rfl, by rw [upd_ne na]; exact upd_same⟩)
theorem MS.frg (S : MS K H a C dx m mm c s) (g v : Int) (b : ButL [m.rg] H H') (e : H' m.rg = some (.lst ((putR s.regs g v).map V.int))) : MS K H' a C dx m mm c { s with regs := putR s.regs g v } ∧ FR H H' a mm m m := by
  obtain ⟨n1, n2, n3⟩ := ne4 S
  have bt : ButL [a, m.rg, mm.da, mm.sa] H H' := b.wide (by simp)
  exact S.on (s' := { s with regs := putR s.regs g v }) bt (b _ _ S.M.at_ (by simpa using n1.symm)) e (b _ _ S.da (by simpa using S.n1)) (b _ _ S.sa (by simpa using S.n2)) (mc_eta m _ _ _ S.pc S.nx S.sp) (by rw [putR_len]; exact S.M.ln) (S.en4 bt)
theorem MS.fda (S : MS K H a C dx m mm c s) (xs : List Int) : MS K (upd H mm.da (.lst (xs.map V.int))) a C dx m mm c { s with dat := xs } ∧ FR H (upd H mm.da (.lst (xs.map V.int))) a mm m m := by
  obtain ⟨n1, n2, n3⟩ := ne4 S
  have bt : ButL [a, m.rg, mm.da, mm.sa] H (upd H mm.da (.lst (xs.map V.int))) := ButL.put (by simp)
  exact S.on (s' := { s with dat := xs }) bt (by rw [upd_ne n2.symm]; exact S.M.at_) (by rw [upd_ne S.n1.symm]; exact S.M.rg) upd_same (by rw [upd_ne S.n3.symm]; exact S.sa) (mc_eta m _ _ _ S.pc S.nx S.sp) S.M.ln (S.en4 bt)
theorem MS.fsa (S : MS K H a C dx m mm c s) (xs : List Int) : MS K (upd H mm.sa (.lst (xs.map V.int))) a C dx m mm c { s with stk := xs } ∧ FR H (upd H mm.sa (.lst (xs.map V.int))) a mm m m := by
  obtain ⟨n1, n2, n3⟩ := ne4 S
  have bt : ButL [a, m.rg, mm.da, mm.sa] H (upd H mm.sa (.lst (xs.map V.int))) := ButL.put (by simp)
  exact S.on (s' := { s with stk := xs }) bt (by rw [upd_ne n3.symm]; exact S.M.at_) (by rw [upd_ne S.n2.symm]; exact S.M.rg) (by rw [upd_ne S.n3]; exact S.da) upd_same (mc_eta m _ _ _ S.pc S.nx S.sp) S.M.ln (S.en4 bt)
theorem MS.same (S : MS K H a C dx m mm c s) (k : Same H H') : MS K H' a C dx m mm c s :=
  (S.on (s' := s) (ButL.same k) (k _ _ S.M.at_) (k _ _ S.M.rg) (k _ _ S.da) (k _ _ S.sa) (mc_eta m _ _ _ S.pc S.nx S.sp) S.M.ln (S.en4 (ButL.same k))).1
theorem Nx.same {Q : VK} (n : Nx K H a C dx m mm c s Q) (k : Same H H') : Nx K H' a C dx m mm c s Q := fun H2 m2 S2 f => n H2 m2 S2 ⟨ButL.trans (ButL.same k) f.bt, f.rg⟩
theorem Nx.fr {Q : VK} (n : Nx K H a C dx m mm c s Q) (f : FR H H' a mm m m') : Nx K H' a C dx m' mm c s Q := fun H2 m2 S2 g => n H2 m2 S2 (f.trans g)
end
theorem wn_at {c : Cfg} {s : PS} {i : Nat} (h : AtI c s i) (b4 : c.b % 4 = 0) : wnO c s.pc = some i := by
  obtain ⟨h1, h2⟩ := h
  unfold wnO
  rw [if_pos (by omega)]
  have : ((s.pc - c.b) / 4).toNat = i := by omega
  rw [this]
theorem wn_of {c : Cfg} {s : PS} {i : Nat} (h : wnO c s.pc = some i) (b4 : c.b % 4 = 0) : AtI c s i := by
  unfold wnO at h
  split at h
  · rename_i q
    injection h with h
    exact ⟨by omega, by omega⟩
  · cases h
theorem lk_memory' (m : Mc) : (mfs m).lookup ("memory" : Str) = some (V.ref m.me) := rfl
section
variable {P : Program} {w : World} {K : PySem.W.Frag} {mg : Str → Option Value} {base : Heap}
theorem sc_Processor_word_number : FnScope ["self", "ahead"] ["self"] (defScope s_Processor_word_number) := ⟨rfl, rfl, rfl, by decide +kernel, rfl, by decide +kernel, by decide +kernel⟩
theorem g_Processor_word_number (T : Txt K mg w)  : Gm P w K mg base CX0 1 (He.ga K "Processor") "word_number" ["self"] (sp_Processor_word_number K) := by
  have sc := sc_Processor_word_number
  refine T.d_Processor_word_number.ok sc len1 (fun _ _ _ _ _ _ us hl => match us, hl with | [_], _ => rfl) (fun f cdv A outer s H vs Q E hr h => ?_)
  obtain ⟨x0, rfl, h⟩ := h
  obtain ⟨a, C, dx, m, mm, c, s, rfl, S, b4, h⟩ := h
  refine ⟨_, (pss_cons (ps_set (i := 1) sc.nd rfl (Or.inl rfl) (pe_op op_sub (pe_fld (pv 0) rfl) (pe_fld (pv 0) rfl)))
      (pss_cons (ps_if (PW.pt (pw_or (pt_cmpR op_ne (pe_op op_and (pe_fld (pv 0) rfl) (pe_op op_sub (pe_gint T.c_BYTES_processor) pe_int)) pe_int (nomark _)) (pw_or1 (pt_not (pt_chain op_le op_lt pe_int (pv 1) (pe_op op_mul (pe_gint T.c_BYTES_processor) (pe_callB call_len_seq (by rfl) T.n_len PySem.boot_len (pa_cons (pe_fld (pv 0) rfl) pa_nil)))))))) (pss_one (ps_ret (pe_un un_neg pe_int))) pss_nil)
      (pss_one (ps_ret (pe_op op_fdiv (pv 1) (pe_gint T.c_BYTES_processor)))))), ?_⟩
  have M := S.M
  have hp := S.pc
  have hs := S.st
  refine ⟨_, rfl, a, C, dx, _, _, rfl, M.at_, T.cls M.cl, T.na M.cl mf_pc, lk_pc m, ?_⟩
  refine ⟨_, rfl, a, C, dx, _, _, rfl, M.at_, T.cls M.cl, T.na M.cl mf_start, lk_start m, _, _, rfl, rfl, ?_⟩
  refine ⟨_, rfl, a, C, dx, _, _, rfl, M.at_, T.cls M.cl, T.na M.cl mf_pc, lk_pc m, ?_⟩
  have e1 : bitAnd m.pc (4 - 1) = s.pc % 4 := by rw [show (4 - 1 : Int) = 3 by decide, m2, hp]
  have e2 : m.pc - m.st = s.pc - c.b := by rw [hp, hs]
  refine ⟨_, _, rfl, rfl, _, _, rfl, rfl, rfl, _, rfl, ?_⟩
  by_cases d1 : s.pc % 4 = 0
  · refine if_false_of (by show (!decide (V.int (bitAnd m.pc (4 - 1)) = V.int 0)) = false; rw [e1, d1]; rfl) ?_
    by_cases d2 : 0 ≤ s.pc - c.b
    · refine ⟨_, rfl, _, _, rfl, rfl, true, congrArg V.bl (decide_eq_true (by show (0 : Int) ≤ m.pc - m.st; rw [e2]; exact d2)), if_true_of rfl ?_⟩
      by_cases d3 : s.pc - c.b < 4 * (c.ws.length : Int)
      · refine ⟨_, rfl, a, C, dx, _, _, rfl, M.at_, T.cls M.cl, T.na M.cl mf_words, lk_words m, m.wa, _, rfl, Or.inr S.w, _, _, rfl, rfl, Or.inl ⟨by decide, by decide⟩, _, _, rfl, rfl, true, congrArg V.bl (decide_eq_true (by rw [List.length_map, e2]; exact d3)), ?_⟩
        refine if_false_of rfl ?_
        refine ⟨_, rfl, _, _, rfl, rfl, ⟨by decide, by decide⟩, ?_⟩
        show Q (.int ((m.pc - m.st) / 4)) H
        unfold wnO at h
        rw [if_pos ⟨d1, d2, d3⟩] at h
        have e3 : ((((s.pc - c.b) / 4).toNat : Nat) : Int) = (s.pc - c.b) / 4 := by omega
        rw [e2, ← e3]
        exact h
      · refine ⟨_, rfl, a, C, dx, _, _, rfl, M.at_, T.cls M.cl, T.na M.cl mf_words, lk_words m, m.wa, _, rfl, Or.inr S.w, _, _, rfl, rfl, Or.inl ⟨by decide, by decide⟩, _, _, rfl, rfl, false, congrArg V.bl (decide_eq_false (by rw [List.length_map, e2]; exact d3)), ?_⟩
        refine if_true_of rfl ?_
        unfold wnO at h
        rw [if_neg (fun z => d3 z.2.2)] at h
        exact ⟨_, rfl, h⟩
    · refine ⟨_, rfl, _, _, rfl, rfl, false, congrArg V.bl (decide_eq_false (by show ¬ (0 : Int) ≤ m.pc - m.st; rw [e2]; exact d2)), if_false_of rfl ?_⟩
      refine ⟨_, rfl, if_true_of rfl ?_⟩
      unfold wnO at h
      rw [if_neg (fun z => d2 z.2.1)] at h
      exact ⟨_, rfl, h⟩
  · refine if_true_of (by show (!decide (V.int (bitAnd m.pc (4 - 1)) = V.int 0)) = true; rw [e1, dec_i, decide_eq_false d1]; rfl) ?_
    unfold wnO at h
    rw [if_neg (fun z => d1 z.1)] at h
    exact ⟨_, rfl, h⟩
theorem sc_Processor_put : FnScope ["self", "goal", "word"] ["self", "goal", "word"] (defScope s_Processor_put) := ⟨rfl, rfl, rfl, by decide +kernel, rfl, by decide +kernel, by decide +kernel⟩
theorem g_Processor_put (T : Txt K mg w)  : Gm P w K mg base CX0 1 (He.ga K "Processor") "put" ["self", "goal", "word"] (sp_Processor_put K) := by
  have sc := sc_Processor_put
  refine T.d_Processor_put.ok sc len3 (fun _ _ _ _ _ _ us hl => match us, hl with | [_, _, _], _ => rfl) (fun f cdv A outer s H vs Q E hr h => ?_)
  obtain ⟨x0, x1, x2, rfl, h⟩ := h
  obtain ⟨a, C, dx, m, mm, c, s, g, v, rfl, rfl, rfl, g0, g1, S, h⟩ := h
  refine ⟨_, (pss_one (ps_if (pt_cmpR op_ne (pv 1) pe_int (nomark _)) (pss_one (ps_asg (pv 2) (pg_sub (pe_fld (pv 0) rfl) (pv 1) set_list))) pss_nil)), ?_⟩
  have M := S.M
  have hl := M.ln
  by_cases z : g = 0
  · subst z
    refine ⟨_, rfl, rfl, _, rfl, if_false_of rfl ?_⟩
    exact h H m (S.frg 0 v (fun _ _ e _ => e) M.rg).1 FR.rf
  · refine ⟨_, rfl, rfl, _, rfl, if_true_of ?_ ?_⟩
    · show (!decide (V.int g = V.int 0)) = true
      rw [dec_i, decide_eq_false z]; rfl
    refine ⟨_, rfl, _, rfl, a, C, dx, _, _, rfl, M.at_, T.cls M.cl, T.na M.cl mf_registers, lk_registers m, _, rfl, ?_⟩
    refine ⟨m.rg, _, g, g.toNat, rfl, rfl, M.rg, ixN_int g0 (by rw [List.length_map, hl]; exact g1), ?_⟩
    rw [map_set_int]
    have q := S.frg (H' := upd H m.rg (.lst ((s.regs.set g.toNat v).map V.int))) g v (ButL.put (by simp)) (by rw [upd_same]; unfold putR; rw [if_neg z])
    exact h _ m q.1 q.2
theorem sc_Processor_go_astray : FnScope ["self"] ["self"] (defScope s_Processor_go_astray) := ⟨rfl, rfl, rfl, by decide +kernel, rfl, by decide +kernel, by decide +kernel⟩
theorem g_Processor_go_astray (T : Txt K mg w)  : Gm P w K mg base CX0 1 (He.ga K "Processor") "go_astray" ["self"] (sp_Processor_go_astray K) := by
  have sc := sc_Processor_go_astray
  refine T.d_Processor_go_astray.ok sc len1 (fun _ _ _ _ _ _ us hl => match us, hl with | [_], _ => rfl) (fun f cdv A outer s H vs Q E hr h => ?_)
  obtain ⟨x0, rfl, h⟩ := h
  obtain ⟨a, C, dx, m, mm, c, s, rfl, S, h⟩ := h
  refine ⟨_, (pss_one (ps_fld (pv 0) (pe_tup (pa_cons pe_str (pa_cons (pe_fld (pv 0) rfl) pa_nil))) rfl)), ?_⟩
  have M := S.M
  refine ⟨_, rfl, a, C, dx, _, _, rfl, M.at_, T.cls M.cl, T.na M.cl mf_pc, lk_pc m, (by show 2 ≤ sizeLine; decide), fun t ht => ?_⟩
  refine ⟨_, rfl, a, C, dx, _, rfl, same_new ht _ _ M.at_, T.cls M.cl, T.na M.cl mf_ended, mfs_len M.xo, ?_⟩
  rw [pf_ended]
  show Q .non (upd (upd H t (.tup (asV m.pc))) a (.ins C dx (mfs { m with en := .ref t })))
  rw [show asV m.pc = asV s.pc by rw [S.pc]]
  have q := S.fen (vs := asV s.pc) ht
  exact h _ _ q.1 q.2
end
end K82

namespace K82
open PySem PyProof.Rows L2 My Ru I6
open Builtin (bitAnd bitOr)
theorem msk (x : Int) {many : Int} (h : many_ok many) : bitAnd x (many - 1) = x % many := by
  rcases h with rfl | rfl | rfl
  · exact PySem.W.kbt_mask x 0
  · exact PySem.W.kbt_mask x 1
  · exact PySem.W.kbt_mask x 2
theorem many_of {o : Nat} (h : isDd o = true) : many_ok (szM o) := by
  unfold szM many_ok
  split
  · exact .inl rfl
  · split
    · exact .inr (.inl rfl)
    · exact .inr (.inr rfl)
theorem list_at {l : List Int} {k : Int} (h0 : 0 ≤ k) (h1 : k < l.length) : atI (l.map V.int) k = some (.int (l.getD k.toNat 0)) := by
  have hl : k.toNat < l.length := by omega
  refine at_of (j := k.toNat) (by omega) ?_
  rw [List.getElem?_map, List.getElem?_eq_getElem hl, List.getD_eq_getElem?_getD, List.getElem?_eq_getElem hl]
  rfl
theorem plc_in {mm : Mm} {s : PS} {a many : Int} {b : Bool} {k : Int} (O : OkM mm s) (hm : many_ok many) (h : plc mm a many = some (b, k)) : 0 ≤ k ∧ k < (cells s b).length := by
  have h1 := O.dl; have h2 := O.sl; have h3 := O.d0; have h4 := O.s0
  unfold plc at h
  split at h
  · rename_i z
    split at h
    · rename_i q
      injection h with h
      injection h with h5 h6
      subst h5
      show 0 ≤ k ∧ k < (s.stk.length : Int)
      rcases hm with rfl | rfl | rfl <;> omega
    · split at h
      · rename_i q
        injection h with h
        injection h with h5 h6
        subst h5
        show 0 ≤ k ∧ k < (s.dat.length : Int)
        rcases hm with rfl | rfl | rfl <;> omega
      · cases h
  · cases h
theorem cell_at {K : PySem.W.Frag} {H : Hp} {a C dx : Addr} {m : Mc} {mm : Mm} {c : Cfg} {s : PS} {ad many k : Int} {b : Bool} (O : OkM mm s) (S : MS K H a C dx m mm c s) (h : plc mm ad many = some (b, k)) (hm : many_ok many) :
    H (if b = true then mm.sa else mm.da) = some (.lst ((cells s b).map V.int)) ∧ atI ((cells s b).map V.int) k = some (.int ((cells s b).getD k.toNat 0)) := by
  have q := plc_in O hm h
  refine ⟨?_, list_at q.1 q.2⟩
  cases b with
  | true => exact S.sa
  | false => exact S.da
theorem gmask (x : Int) {many : Int} (h : many_ok many) : bitAnd x (grM0 many) = x % (grM many + 1) := by
  rcases h with rfl | rfl | rfl
  · exact PySem.W.kbt_mask x 8
  · exact PySem.W.kbt_mask x 16
  · exact PySem.W.kbt_mask x 32
def ldX (o : Nat) (w ahead : Int) : Int := (w / 2 ^ ahead.toNat) % (grM (szM o) + 1)
theorem ldW_yes {o : Nat} {w ahead : Int} (h1 : sgM o = true) (h2 : grM (szM o) / 2 < ldX o w ahead) : ldW o w ahead = (ldX o w ahead - grM (szM o) - 1) % 4294967296 := if_pos ⟨h1, h2⟩
theorem ldW_no {o : Nat} {w ahead : Int} (h : ¬ (sgM o = true ∧ grM (szM o) / 2 < ldX o w ahead)) : ldW o w ahead = ldX o w ahead := if_neg h
theorem gr_pos {many : Int} (h : many_ok many) : 0 ≤ grM many ∧ grM many ≤ 4294967295 := by
  rcases h with rfl | rfl | rfl <;> decide
theorem gr_abs {many : Int} (h : many_ok many) : (grM0 many).natAbs < 2 ^ 64 := by
  rcases h with rfl | rfl | rfl <;> decide
theorem ga_abs (x : Int) {many : Int} (h : many_ok many) : (bitAnd x (grM0 many)).natAbs < 2 ^ 64 := by
  rw [gmask x h]
  have e64 : (2 : Nat) ^ 64 = 18446744073709551616 := by decide
  rw [e64]
  rcases h with rfl | rfl | rfl
  · show (x % 256).natAbs < _; omega
  · show (x % 65536).natAbs < _; omega
  · show (x % 4294967296).natAbs < _; omega
section
variable {P : Program} {w : World} {K : PySem.W.Frag} {mg : Str → Option Value} {base : Heap}
theorem sc_Memory_find : FnScope ["self", "address", "many"] ["self", "address", "many"] (defScope s_Memory_find) := ⟨rfl, rfl, rfl, by decide +kernel, rfl, by decide +kernel, by decide +kernel⟩
theorem g_Memory_find (T : Txt K mg w)  : Gm P w K mg base CX0 1 (He.ga K "Memory") "find" ["self", "address", "many"] (sp_Memory_find K) := by
  have sc := sc_Memory_find
  refine T.d_Memory_find.ok sc len3 (fun _ _ _ _ _ _ us hl => match us, hl with | [_, _, _], _ => rfl) (fun f cdv A outer s H vs Q E hr h => ?_)
  obtain ⟨x0, x1, x2, rfl, h⟩ := h
  obtain ⟨e, dm, mm, a, many, rfl, rfl, rfl, hm, he, h⟩ := h
  refine ⟨_, (pss_cons (ps_if (pt_cmpR op_eq (pe_op op_and (pv 1) (pe_op op_sub (pv 2) pe_int)) pe_int (nomark _)) (pss_cons (ps_if (PW.pt (pw_and (pt_cmpR op_le (pe_fld (pv 0) rfl) (pv 1) (nomark _)) (pw_and1 (pt_cmpR op_le (pe_op op_add (pv 1) (pv 2)) (pe_fld (pv 0) rfl) (nomark _))))) (pss_one (ps_ret (pe_tup (pa_cons (pe_fld (pv 0) rfl) (pa_cons (pe_op op_fdiv (pe_op op_sub (pv 1) (pe_fld (pv 0) rfl)) (pe_gint T.c_BYTES_memory)) pa_nil))))) pss_nil)
      (pss_one (ps_if (PW.pt (pw_and (pt_cmpR op_le (pe_fld (pv 0) rfl) (pv 1) (nomark _)) (pw_and1 (pt_cmpR op_le (pe_op op_add (pv 1) (pv 2)) (pe_fld (pv 0) rfl) (nomark _))))) (pss_one (ps_ret (pe_tup (pa_cons (pe_fld (pv 0) rfl) (pa_cons (pe_op op_fdiv (pe_op op_sub (pv 1) (pe_fld (pv 0) rfl)) (pe_gint T.c_BYTES_memory)) pa_nil))))) pss_nil))) pss_nil)
      (pss_one (ps_ret (pe_tup (pa_cons pe_non (pa_cons pe_int pa_nil)))))), ?_⟩
  have e1 : bitAnd a (many - 1) = a % many := msk a hm
  refine ⟨_, rfl, _, rfl, _, _, rfl, rfl, _, _, rfl, rfl, rfl, _, rfl, ?_⟩
  have none_ : plc mm a many = none → ∀ p, H p = none → Q (.ref p) (upd H p (.tup [.non, .int 0])) := fun z p hp => h _ p (same_new hp) (by unfold plcV; rw [z]; exact upd_same)
  by_cases d1 : a % many = 0
  · refine if_true_of (by show decide (V.int (bitAnd a (many - 1)) = V.int 0) = true; rw [e1, dec_i]; exact decide_eq_true d1) ?_
    have second : ¬ (mm.ss ≤ a ∧ a + many ≤ mm.se) → (mm.ds ≤ a ∧ a + many ≤ mm.de → plc mm a many = some (false, (a - mm.ds) / 4)) ∧ (¬ (mm.ds ≤ a ∧ a + many ≤ mm.de) → plc mm a many = none) := fun z => by
      unfold plc
      rw [if_pos d1, if_neg z]
      exact ⟨fun q => if_pos q, fun q => if_neg q⟩
    have first : (mm.ss ≤ a ∧ a + many ≤ mm.se) → plc mm a many = some (true, (a - mm.ss) / 4) := fun z => by
      unfold plc
      rw [if_pos d1, if_pos z]
    by_cases c1 : mm.ss ≤ a
    · refine ⟨_, rfl, e, _, dm, _, _, rfl, he, T.cl_Memory.c, T.na_Memory "stack_start" (by decide +kernel), rfl, _, rfl, _, _, rfl, rfl, _, rfl, if_true_of (decide_eq_true c1) ?_⟩
      by_cases c2 : a + many ≤ mm.se
      · refine ⟨_, rfl, _, rfl, _, _, rfl, rfl, _, rfl, e, _, dm, _, _, rfl, he, T.cl_Memory.c, T.na_Memory "stack_end" (by decide +kernel), rfl, _, _, rfl, rfl, _, rfl, if_true_of (decide_eq_true c2) ?_⟩
        refine ⟨_, rfl, e, _, dm, _, _, rfl, he, T.cl_Memory.c, T.na_Memory "stack" (by decide +kernel), rfl, _, rfl, _, rfl, e, _, dm, _, _, rfl, he, T.cl_Memory.c, T.na_Memory "stack_start" (by decide +kernel), rfl, _, _, rfl, rfl, _, _, rfl, rfl, ⟨by decide, by decide⟩, (by show 2 ≤ sizeLine; decide), fun p hp => ?_⟩
        exact h _ p (same_new hp) (by unfold plcV; rw [first ⟨c1, c2⟩]; exact upd_same)
      · refine ⟨_, rfl, _, rfl, _, _, rfl, rfl, _, rfl, e, _, dm, _, _, rfl, he, T.cl_Memory.c, T.na_Memory "stack_end" (by decide +kernel), rfl, _, _, rfl, rfl, _, rfl, if_false_of (decide_eq_false c2) ?_⟩
        obtain ⟨s1, s2⟩ := second (fun z => c2 z.2)
        by_cases c3 : mm.ds ≤ a
        · refine ⟨_, rfl, e, _, dm, _, _, rfl, he, T.cl_Memory.c, T.na_Memory "data_start" (by decide +kernel), rfl, _, rfl, _, _, rfl, rfl, _, rfl, if_true_of (decide_eq_true c3) ?_⟩
          by_cases c4 : a + many ≤ mm.de
          · refine ⟨_, rfl, _, rfl, _, _, rfl, rfl, _, rfl, e, _, dm, _, _, rfl, he, T.cl_Memory.c, T.na_Memory "data_end" (by decide +kernel), rfl, _, _, rfl, rfl, _, rfl, if_true_of (decide_eq_true c4) ?_⟩
            refine ⟨_, rfl, e, _, dm, _, _, rfl, he, T.cl_Memory.c, T.na_Memory "data" (by decide +kernel), rfl, _, rfl, _, rfl, e, _, dm, _, _, rfl, he, T.cl_Memory.c, T.na_Memory "data_start" (by decide +kernel), rfl, _, _, rfl, rfl, _, _, rfl, rfl, ⟨by decide, by decide⟩, (by show 2 ≤ sizeLine; decide), fun p hp => ?_⟩
            exact h _ p (same_new hp) (by unfold plcV; rw [s1 ⟨c3, c4⟩]; exact upd_same)
          · refine ⟨_, rfl, _, rfl, _, _, rfl, rfl, _, rfl, e, _, dm, _, _, rfl, he, T.cl_Memory.c, T.na_Memory "data_end" (by decide +kernel), rfl, _, _, rfl, rfl, _, rfl, if_false_of (decide_eq_false c4) ?_⟩
            exact ⟨(by show 2 ≤ sizeLine; decide), fun p hp => none_ (s2 (fun z => c4 z.2)) p hp⟩
        · refine ⟨_, rfl, e, _, dm, _, _, rfl, he, T.cl_Memory.c, T.na_Memory "data_start" (by decide +kernel), rfl, _, rfl, _, _, rfl, rfl, _, rfl, if_false_of (decide_eq_false c3) ?_⟩
          refine if_false_of rfl ?_
          exact ⟨(by show 2 ≤ sizeLine; decide), fun p hp => none_ (s2 (fun z => c3 z.1)) p hp⟩
    · refine ⟨_, rfl, e, _, dm, _, _, rfl, he, T.cl_Memory.c, T.na_Memory "stack_start" (by decide +kernel), rfl, _, rfl, _, _, rfl, rfl, _, rfl, if_false_of (decide_eq_false c1) ?_⟩
      refine if_false_of rfl ?_
      obtain ⟨s1, s2⟩ := second (fun z => c1 z.1)
      by_cases c3 : mm.ds ≤ a
      · refine ⟨_, rfl, e, _, dm, _, _, rfl, he, T.cl_Memory.c, T.na_Memory "data_start" (by decide +kernel), rfl, _, rfl, _, _, rfl, rfl, _, rfl, if_true_of (decide_eq_true c3) ?_⟩
        by_cases c4 : a + many ≤ mm.de
        · refine ⟨_, rfl, _, rfl, _, _, rfl, rfl, _, rfl, e, _, dm, _, _, rfl, he, T.cl_Memory.c, T.na_Memory "data_end" (by decide +kernel), rfl, _, _, rfl, rfl, _, rfl, if_true_of (decide_eq_true c4) ?_⟩
          refine ⟨_, rfl, e, _, dm, _, _, rfl, he, T.cl_Memory.c, T.na_Memory "data" (by decide +kernel), rfl, _, rfl, _, rfl, e, _, dm, _, _, rfl, he, T.cl_Memory.c, T.na_Memory "data_start" (by decide +kernel), rfl, _, _, rfl, rfl, _, _, rfl, rfl, ⟨by decide, by decide⟩, (by show 2 ≤ sizeLine; decide), fun p hp => ?_⟩
          exact h _ p (same_new hp) (by unfold plcV; rw [s1 ⟨c3, c4⟩]; exact upd_same)
        · refine ⟨_, rfl, _, rfl, _, _, rfl, rfl, _, rfl, e, _, dm, _, _, rfl, he, T.cl_Memory.c, T.na_Memory "data_end" (by decide +kernel), rfl, _, _, rfl, rfl, _, rfl, if_false_of (decide_eq_false c4) ?_⟩
          exact ⟨(by show 2 ≤ sizeLine; decide), fun p hp => none_ (s2 (fun z => c4 z.2)) p hp⟩
      · refine ⟨_, rfl, e, _, dm, _, _, rfl, he, T.cl_Memory.c, T.na_Memory "data_start" (by decide +kernel), rfl, _, rfl, _, _, rfl, rfl, _, rfl, if_false_of (decide_eq_false c3) ?_⟩
        refine if_false_of rfl ?_
        exact ⟨(by show 2 ≤ sizeLine; decide), fun p hp => none_ (s2 (fun z => c3 z.1)) p hp⟩
  · refine if_false_of (by show decide (V.int (bitAnd a (many - 1)) = V.int 0) = false; rw [e1, dec_i]; exact decide_eq_false d1) ?_
    refine ⟨(by show 2 ≤ sizeLine; decide), fun p hp => ?_⟩
    exact none_ (by unfold plc; rw [if_neg d1]) p hp
theorem sc__find : FnScope ["processor", "base", "number", "many", "address", "words", "at"] ["processor", "base", "number", "many"] (defScope s__find) := ⟨rfl, rfl, rfl, by decide +kernel, rfl, by decide +kernel, by decide +kernel⟩
theorem g__find (T : Txt K mg w) (G_word_of : Gd P w K mg base CX0 1 "word_of" ["number"] (sp_word_of K)) (G_Memory_find : Gm P w K mg base CX0 1 (He.ga K "Memory") "find" ["self", "address", "many"] (sp_Memory_find K)) (G_Processor_go_astray : Gm P w K mg base CX0 1 (He.ga K "Processor") "go_astray" ["self"] (sp_Processor_go_astray K)) : Gd P w K mg base CX0 2 "_find" ["processor", "base", "number", "many"] (sp__find K) := by
  have sc := sc__find
  refine T.d__find.ok sc len4 (fun _ _ _ _ _ _ us hl => match us, hl with | [_, _, _, _], _ => rfl) (fun f cdv A outer s H vs Q E hr h => ?_)
  obtain ⟨x0, x1, x2, x3, rfl, h⟩ := h
  obtain ⟨a, C, dx, m, mm, c, s, base, num, many, rfl, rfl, rfl, rfl, b0, b1, hm, S, hs, hn⟩ := h
  refine ⟨_, (pss_cons (ps_set (i := 4) sc.nd rfl (Or.inl rfl) (pe_g G_word_of (hr.mono (by omega)) pass0 (pa_cons (pe_op op_add (pe_ix ix_list (pe_fld (pv 0) rfl) (pv 1) (fun _ _ => rfl)) (pv 2)) pa_nil)))
      (pss_cons (ps_asg (pe_gm (pe_fld (pv 0) rfl) T.cl_Memory.c G_Memory_find (hr.mono (by omega)) pass0 (pa_cons (pv 4) (pa_cons (pv 3) pa_nil))) (pg_tup rfl (pgs_cons (pg_name (i := 5) sc.nd rfl (Or.inl rfl)) (pgs_cons (pg_name (i := 6) sc.nd rfl (Or.inl rfl)) pgs_nil))))
      (pss_cons (ps_if (pt_cmpR op_isN (pv 5) pe_non (nomark _)) (pss_one (ps_expr (Mh.pe_gm20 (i := 0) (pv 0) T.cl_Machine.c T.cl_ReadyMachine.c (Mh.Gm.heir G_Processor_go_astray T.hi_Machine_go_astray) (Mh.Gm.heir G_Processor_go_astray T.hi_ReadyMachine_go_astray) (hr.mono (by omega)) pass0))) pss_nil)
      (pss_one (ps_ret (pe_tup (pa_cons (pv 5) (pa_cons (pv 6) (pa_cons (pe_op op_mul pe_int (pe_op op_and (pv 4) (pe_op op_sub (pe_gint T.c_BYTES_instructiondeeds) pe_int))) pa_nil))))))))), ?_⟩
  have M := S.M
  have hl := M.ln
  obtain ⟨dm, hme⟩ := S.me
  refine ⟨_, rfl, a, C, dx, _, _, rfl, M.at_, T.cls M.cl, T.na M.cl mf_registers, lk_registers m, _, rfl, m.rg, _, base, _, rfl, rfl, SqL.of M.rg, regs_at b0 (by rw [hl]; exact b1), _, rfl, _, _, rfl, rfl, _, rfl, _, rfl, ?_⟩
  refine ⟨_, rfl, a, C, dx, _, _, rfl, M.at_, T.cls M.cl, T.na M.cl mf_memory, lk_memory m, ?_⟩
  refine ⟨m.me, dm, _, rfl, hme, rfl, _, rfl, _, rfl, ?_⟩
  refine ⟨_, _, _, rfl, m.me, dm, mm, adM s base num, many, rfl, rfl, rfl, hm, hme, fun H1 p s1 hp => ?_⟩
  have e2 : bitAnd (adM s base num) (4 - 1) = adM s base num % 4 := by rw [show (4 - 1 : Int) = 3 by decide, m2]
  cases e : plc mm (adM s base num) many with
  | none =>
    have hp : H1 p = some (.tup [.non, .int 0]) := by unfold plcV at hp; rw [e] at hp; exact hp
    refine ⟨p, _, rfl, SqT.of hp, rfl, _, _, rfl, _, _, rfl, rfl, ?_⟩
    refine ⟨_, rfl, rfl, _, rfl, if_true_of rfl ?_⟩
    have S1 := S.same s1
    refine ⟨a, C, dx, _, rfl, S1.M.at_, M.cl, lk_go_astray M.xo, ?_⟩
    refine ⟨_, rfl, a, C, dx, m, mm, c, s, rfl, S1, fun H2 m2 S2 f2 => ?_⟩
    refine ⟨_, rfl, _, rfl, _, rfl, _, _, rfl, rfl, _, _, rfl, rfl, _, _, rfl, rfl, Or.inl ⟨by decide, by decide⟩, (by show 3 ≤ sizeLine; decide), fun q hq => ?_⟩
    refine hn e _ m2 q (S2.same (same_new hq)) ((FR.same s1).trans (f2.trans (FR.same (same_new hq)))) ?_
    rw [upd_same]
    show some (HO.tup [.non, .int 0, .int (8 * bitAnd (adM s base num) (4 - 1))]) = _
    rw [e2]
  | some bk =>
    obtain ⟨b, k⟩ := bk
    have hp : H1 p = some (.tup [.ref (if b = true then mm.sa else mm.da), .int k]) := by unfold plcV at hp; rw [e] at hp; cases b <;> exact hp
    refine ⟨p, _, rfl, SqT.of hp, rfl, _, _, rfl, _, _, rfl, rfl, ?_⟩
    refine ⟨_, rfl, rfl, _, rfl, if_false_of (decide_eq_false (fun z => by cases z)) ?_⟩
    refine ⟨_, rfl, _, rfl, _, rfl, _, _, rfl, rfl, _, _, rfl, rfl, _, _, rfl, rfl, Or.inl ⟨by decide, by decide⟩, (by show 3 ≤ sizeLine; decide), fun q hq => ?_⟩
    refine hs b k e _ q (Same.tr s1 (same_new hq)) ?_
    rw [upd_same]
    show some (HO.tup [.ref (if b = true then mm.sa else mm.da), .int k, .int (8 * bitAnd (adM s base num) (4 - 1))]) = _
    rw [e2]
theorem sc__load : FnScope ["processor", "instruction", "name", "goal", "base", "number", "many", "with_sign", "words", "at", "ahead", "greatest", "word"] ["processor", "instruction"] (defScope s__load) := ⟨rfl, rfl, rfl, by decide +kernel, rfl, by decide +kernel, by decide +kernel⟩
theorem g__load (T : Txt K mg w) (G__find : Gd P w K mg base CX0 2 "_find" ["processor", "base", "number", "many"] (sp__find K)) (G_word_of : Gd P w K mg base CX0 1 "word_of" ["number"] (sp_word_of K)) (G_Processor_put : Gm P w K mg base CX0 1 (He.ga K "Processor") "put" ["self", "goal", "word"] (sp_Processor_put K)) : Gd P w K mg base CX0 3 "_load" ["processor", "instruction"] (sp__load K) := by
  have sc := sc__load
  refine T.d__load.ok sc len2 (fun _ _ _ _ _ _ us hl => match us, hl with | [_, _], _ => rfl) (fun f cdv A outer s H vs Q E hr h => ?_)
  obtain ⟨x0, x1, rfl, h⟩ := h
  obtain ⟨a, p, C, dx, m, mm, c, s, o, q, rfl, rfl, hd, ho, hq, S, OM, hen, hp, h⟩ := h
  obtain ⟨x0, x1, x2, _, _, _, _⟩ := hq
  have o32 : o < 32 := by simpa using ho
  have y01 : 0 ≤ q.2.1 ∧ q.2.1 < 32 := x2.elim (fun z => by omega) id
  obtain ⟨esG, nG, KG, hG⟩ := T.k_GR
  have hmany : many_ok (szM o) := many_of hd
  refine ⟨_, (pss_cons (ps_asg (pv 1) (pg_tup rfl (pgs_cons (pg_name (i := 2) sc.nd rfl (Or.inl rfl)) (pgs_cons (pg_name (i := 3) sc.nd rfl (Or.inl rfl)) (pgs_cons (pg_name (i := 4) sc.nd rfl (Or.inl rfl)) (pgs_cons (pg_name (i := 5) sc.nd rfl (Or.inl rfl)) pgs_nil))))))
      (pss_cons (ps_asg (pe_ix ix_kdict (pe_gref T.c_SIZES) (pv 2) (fun _ _ => rfl)) (pg_tup rfl (pgs_cons (pg_name (i := 6) sc.nd rfl (Or.inl rfl)) (pgs_cons (pg_name (i := 7) sc.nd rfl (Or.inl rfl)) pgs_nil))))
      (pss_cons (ps_asg (pe_g G__find (hr.mono (by omega)) pass0 (pa_cons (pv 0) (pa_cons (pv 4) (pa_cons (pv 5) (pa_cons (pv 6) pa_nil))))) (pg_tup rfl (pgs_cons (pg_name (i := 8) sc.nd rfl (Or.inl rfl)) (pgs_cons (pg_name (i := 9) sc.nd rfl (Or.inl rfl)) (pgs_cons (pg_name (i := 10) sc.nd rfl (Or.inl rfl)) pgs_nil)))))
      (pss_one (ps_if (pt_cmpR op_notN (pv 8) pe_non (nomark _)) (pss_cons (ps_set (i := 11) sc.nd rfl (Or.inl rfl) (pe_ix (Ki.ix_kint KG) (pe_gref T.c_GREATEST_OF) (pv 6) (fun _ _ => rfl)))
      (pss_cons (ps_set (i := 12) sc.nd rfl (Or.inl rfl) (pe_op op_and (pe_op op_shr (pe_ix ix_list (pv 8) (pv 9) (fun _ _ => rfl)) (pv 10)) (pv 11)))
      (pss_cons (ps_if (PW.pt (pw_and (pt_val (pv 7)) (pw_and1 (pt_cmpR op_gt (pv 12) (pe_op op_fdiv (pv 11) pe_int) (nomark _))))) (pss_one (ps_set (i := 12) sc.nd rfl (Or.inl rfl) (pe_g G_word_of (hr.mono (by omega)) pass0 (pa_cons (pe_op op_sub (pe_op op_sub (pv 12) (pv 11)) pe_int) pa_nil)))) pss_nil)
      (pss_one (ps_expr (Mh.pe_gm2 (i := 0) (pv 0) T.cl_Machine.c T.cl_ReadyMachine.c (Mh.Gm.heir G_Processor_put T.hi_Machine_put) (Mh.Gm.heir G_Processor_put T.hi_ReadyMachine_put) (hr.mono (by omega)) pass0 (pa_cons (pv 3) (pa_cons (pv 12) pa_nil)))))))) pss_nil))))), ?_⟩
  have M := S.M
  have e0 : doD mm o q s = loP mm o q s := if_pos (decide_eq_true o32)
  rw [e0] at h
  unfold loP at h
  refine ⟨_, rfl, p, _, rfl, SqT.of hp, rfl, _, _, rfl, _, _, rfl, _, _, rfl, _, _, rfl, rfl, ?_⟩
  obtain ⟨sz, hz1, hz2⟩ := T.s_tab o hd
  refine ⟨_, rfl, _, _, _, rfl, rfl, hz1, ?_⟩
  refine ⟨sz, _, rfl, hz2 _, rfl, _, _, rfl, _, _, rfl, rfl, ?_⟩
  refine ⟨_, rfl, _, rfl, _, rfl, _, rfl, ?_⟩
  refine ⟨_, _, _, _, rfl, a, C, dx, m, mm, c, s, q.2.1, q.2.2, szM o, rfl, rfl, rfl, rfl, y01.1, y01.2, hmany, S, fun b k e H1 t s1 ht => ?_, fun e H1 m1 t S1 f1 ht => ?_⟩
  · rw [e] at h
    have S1 := S.same s1
    have hc := cell_at OM S1 e hmany
    obtain ⟨tg, hg⟩ := hG _ hmany
    refine ⟨t, _, rfl, SqT.of ht, rfl, _, _, rfl, _, _, rfl, _, _, rfl, rfl, ?_⟩
    refine ⟨_, rfl, rfl, _, rfl, if_true_of (by show (!decide (V.ref _ = V.non)) = true; rw [decide_eq_false (fun z => by cases z)]; rfl) ?_⟩
    refine ⟨_, rfl, _, _, .int (grM0 (szM o)), rfl, rfl, hg, ⟨tg, rfl⟩, ?_⟩
    refine ⟨_, rfl, _, rfl, _, _, k, _, rfl, rfl, SqL.of hc.1, hc.2, ?_⟩
    replace h : Nx K H a C dx m mm c { s with regs := putR s.regs q.1 (ldW o ((cells s b).getD k.toNat 0) (8 * (adM s q.2.1 q.2.2 % 4))) } Q := h
    replace h := h.same s1
    generalize hw : (cells s b).getD k.toNat 0 = W at *
    generalize ha : 8 * (adM s q.2.1 q.2.2 % 4) = ah at *
    have ah0 : 0 ≤ ah := by omega
    refine ⟨_, rfl, _, _, rfl, rfl, ah0, _, rfl, _, _, rfl, rfl, ?_⟩
    have ex : bitAnd (W / 2 ^ ah.toNat) (grM0 (szM o)) = ldX o W ah := gmask _ hmany
    have last : ∀ v : Int, v = ldW o W ah → Nx K H1 a C dx m mm c { s with regs := putR s.regs q.1 v } Q := fun v e => by rw [e]; exact h
    show ∃ v, _ ∧ _
    refine ⟨_, rfl, _, rfl, ?_⟩
    by_cases hsg : sgM o = true
    · refine if_true_of hsg ?_
      refine ⟨_, rfl, _, rfl, _, _, rfl, rfl, ⟨by decide, by decide⟩, _, _, rfl, rfl, _, rfl, ?_⟩
      by_cases c2 : grM (szM o) / 2 < ldX o W ah
      · refine if_true_of (decide_eq_true (by show grM0 (szM o) / 2 < bitAnd (W / 2 ^ ah.toNat) (grM0 (szM o)); rw [ex]; exact c2)) ?_
        refine ⟨_, rfl, _, rfl, _, _, rfl, rfl, _, _, rfl, rfl, _, rfl, _, rfl, ?_⟩
        refine ⟨a, C, dx, _, rfl, S1.M.at_, M.cl, lk_put M.xo, ?_⟩
        refine ⟨_, rfl, _, rfl, ?_⟩
        exact ⟨_, _, _, rfl, a, C, dx, m, mm, c, s, q.1, _, rfl, rfl, rfl, x0, x1, S1, last _ (by show (bitAnd (W / 2 ^ ah.toNat) (grM0 (szM o)) - grM0 (szM o) - 1) % 4294967296 = _; rw [ex, ldW_yes hsg c2])⟩
      · refine if_false_of (decide_eq_false (by show ¬ grM0 (szM o) / 2 < bitAnd (W / 2 ^ ah.toNat) (grM0 (szM o)); rw [ex]; exact c2)) ?_
        refine ⟨a, C, dx, _, rfl, S1.M.at_, M.cl, lk_put M.xo, ?_⟩
        refine ⟨_, rfl, _, rfl, ?_⟩
        exact ⟨_, _, _, rfl, a, C, dx, m, mm, c, s, q.1, _, rfl, rfl, rfl, x0, x1, S1, last _ (by show bitAnd (W / 2 ^ ah.toNat) (grM0 (szM o)) = _; rw [ex, ldW_no (fun z => c2 z.2)])⟩
    · refine if_false_of (by simpa using hsg) ?_
      refine if_false_of rfl ?_
      refine ⟨a, C, dx, _, rfl, S1.M.at_, M.cl, lk_put M.xo, ?_⟩
      refine ⟨_, rfl, _, rfl, ?_⟩
      exact ⟨_, _, _, rfl, a, C, dx, m, mm, c, s, q.1, _, rfl, rfl, rfl, x0, x1, S1, last _ (by show bitAnd (W / 2 ^ ah.toNat) (grM0 (szM o)) = _; rw [ex, ldW_no (fun z => hsg z.1)])⟩
  · rw [e] at h
    refine ⟨t, _, rfl, SqT.of ht, rfl, _, _, rfl, _, _, rfl, _, _, rfl, rfl, ?_⟩
    refine ⟨_, rfl, rfl, _, rfl, if_false_of rfl ?_⟩
    exact h _ m1 S1 f1
theorem sc__store : FnScope ["processor", "instruction", "name", "base", "source", "number", "many", "_", "words", "at", "ahead", "greatest"] ["processor", "instruction"] (defScope s__store) := ⟨rfl, rfl, rfl, by decide +kernel, rfl, by decide +kernel, by decide +kernel⟩
theorem g__store (T : Txt K mg w) (G__find : Gd P w K mg base CX0 2 "_find" ["processor", "base", "number", "many"] (sp__find K)) : Gd P w K mg base CX0 3 "_store" ["processor", "instruction"] (sp__store K) := by
  have sc := sc__store
  refine T.d__store.ok sc len2 (fun _ _ _ _ _ _ us hl => match us, hl with | [_, _], _ => rfl) (fun f cdv A outer s H vs Q E hr h => ?_)
  obtain ⟨x0, x1, rfl, h⟩ := h
  obtain ⟨a, p, C, dx, m, mm, c, s, o, q, rfl, rfl, hd, ho, hq, S, OM, hen, hp, h⟩ := h
  obtain ⟨x0, x1, x2, _, _, _, _⟩ := hq
  have o32 : ¬ o < 32 := by simpa using ho
  have o44 : o ≠ 44 := fun z => by rw [z] at hd; cases hd
  have y01 : 0 ≤ q.2.1 ∧ q.2.1 < 32 := x2.elim (fun z => absurd z o44) id
  obtain ⟨esG, nG, KG, hG⟩ := T.k_GR
  have hmany : many_ok (szM o) := many_of hd
  refine ⟨_, (pss_cons (ps_asg (pv 1) (pg_tup rfl (pgs_cons (pg_name (i := 2) sc.nd rfl (Or.inl rfl)) (pgs_cons (pg_name (i := 3) sc.nd rfl (Or.inl rfl)) (pgs_cons (pg_name (i := 4) sc.nd rfl (Or.inl rfl)) (pgs_cons (pg_name (i := 5) sc.nd rfl (Or.inl rfl)) pgs_nil))))))
      (pss_cons (ps_asg (pe_ix ix_kdict (pe_gref T.c_SIZES) (pv 2) (fun _ _ => rfl)) (pg_tup rfl (pgs_cons (pg_name (i := 6) sc.nd rfl (Or.inl rfl)) (pgs_cons (pg_name (i := 7) sc.nd rfl (Or.inl rfl)) pgs_nil))))
      (pss_cons (ps_asg (pe_g G__find (hr.mono (by omega)) pass0 (pa_cons (pv 0) (pa_cons (pv 3) (pa_cons (pv 5) (pa_cons (pv 6) pa_nil))))) (pg_tup rfl (pgs_cons (pg_name (i := 8) sc.nd rfl (Or.inl rfl)) (pgs_cons (pg_name (i := 9) sc.nd rfl (Or.inl rfl)) (pgs_cons (pg_name (i := 10) sc.nd rfl (Or.inl rfl)) pgs_nil)))))
      (pss_one (ps_if (pt_cmpR op_notN (pv 8) pe_non (nomark _)) (pss_cons (ps_set (i := 11) sc.nd rfl (Or.inl rfl) (pe_ix (Ki.ix_kint KG) (pe_gref T.c_GREATEST_OF) (pv 6) (fun _ _ => rfl)))
      (pss_one (ps_asg (pe_op op_or (pe_op op_and (pe_ix ix_list (pv 8) (pv 9) (fun _ _ => rfl)) (pe_un un_inv (pe_op op_shl (pv 11) (pv 10)))) (pe_op op_shl (pe_op op_and (pe_ix ix_list (pe_fld (pv 0) rfl) (pv 4) (fun _ _ => rfl)) (pv 11)) (pv 10))) (pg_sub (pv 8) (pv 9) set_list)))) pss_nil))))), ?_⟩
  have M := S.M
  have e0 : doD mm o q s = stP mm o q s := if_neg (by rw [decide_eq_false o32]; exact Bool.false_ne_true)
  rw [e0] at h
  unfold stP at h
  refine ⟨_, rfl, p, _, rfl, SqT.of hp, rfl, _, _, rfl, _, _, rfl, _, _, rfl, _, _, rfl, rfl, ?_⟩
  obtain ⟨sz, hz1, hz2⟩ := T.s_tab o hd
  refine ⟨_, rfl, _, _, _, rfl, rfl, hz1, ?_⟩
  refine ⟨sz, _, rfl, hz2 _, rfl, _, _, rfl, _, _, rfl, rfl, ?_⟩
  refine ⟨_, rfl, _, rfl, _, rfl, _, rfl, ?_⟩
  refine ⟨_, _, _, _, rfl, a, C, dx, m, mm, c, s, q.1, q.2.2, szM o, rfl, rfl, rfl, rfl, x0, x1, hmany, S, fun b k e H1 t s1 ht => ?_, fun e H1 m1 t S1 f1 ht => ?_⟩
  · rw [e] at h
    have S1 := S.same s1
    have hc := cell_at OM S1 e hmany
    have hin := plc_in OM hmany e
    obtain ⟨tg, hg⟩ := hG _ hmany
    have hl := M.ln
    have hgr := gr_pos hmany
    refine ⟨t, _, rfl, SqT.of ht, rfl, _, _, rfl, _, _, rfl, _, _, rfl, rfl, ?_⟩
    refine ⟨_, rfl, rfl, _, rfl, if_true_of (by show (!decide (V.ref _ = V.non)) = true; rw [decide_eq_false (fun z => by cases z)]; rfl) ?_⟩
    refine ⟨_, rfl, _, _, .int (grM0 (szM o)), rfl, rfl, hg, ⟨tg, rfl⟩, ?_⟩
    have ah0 : 0 ≤ 8 * (adM s q.1 q.2.2 % 4) ∧ 8 * (adM s q.1 q.2.2 % 4) ≤ 24 := by omega
    have S1M := S1.M
    refine ⟨_, rfl, _, rfl, _, _, k, _, rfl, rfl, SqL.of hc.1, hc.2, ?_⟩
    refine ⟨_, rfl, _, rfl, _, _, rfl, rfl, ⟨ah0.1, by omega, gr_abs hmany⟩, _, rfl, _, _, rfl, rfl, ?_⟩
    refine ⟨_, rfl, a, C, dx, _, _, rfl, S1M.at_, T.cls M.cl, T.na M.cl mf_registers, lk_registers m, _, rfl, m.rg, _, q.2.1, _, rfl, rfl, SqL.of S1M.rg, regs_at y01.1 (by rw [hl]; exact y01.2), ?_⟩
    refine ⟨_, rfl, _, _, rfl, rfl, _, rfl, _, _, rfl, rfl, ⟨ah0.1, by omega, ga_abs _ hmany⟩, _, _, rfl, rfl, ?_⟩
    refine ⟨_, rfl, _, rfl, ?_⟩
    cases b with
    | true =>
      refine ⟨mm.sa, _, k, k.toNat, rfl, rfl, hc.1, ixN_int hin.1 (by rw [List.length_map]; exact hin.2), ?_⟩
      rw [map_set_int]
      have g := S1.fsa (s.stk.set k.toNat (stW (szM o) (s.stk.getD k.toNat 0) (rgAt s.regs q.2.1) (8 * (adM s q.1 q.2.2 % 4))))
      exact h _ m g.1 ((FR.same s1).trans g.2)
    | false =>
      refine ⟨mm.da, _, k, k.toNat, rfl, rfl, hc.1, ixN_int hin.1 (by rw [List.length_map]; exact hin.2), ?_⟩
      rw [map_set_int]
      have g := S1.fda (s.dat.set k.toNat (stW (szM o) (s.dat.getD k.toNat 0) (rgAt s.regs q.2.1) (8 * (adM s q.1 q.2.2 % 4))))
      exact h _ m g.1 ((FR.same s1).trans g.2)
  · rw [e] at h
    refine ⟨t, _, rfl, SqT.of ht, rfl, _, _, rfl, _, _, rfl, _, _, rfl, rfl, ?_⟩
    refine ⟨_, rfl, rfl, _, rfl, if_false_of rfl ?_⟩
    exact h _ m1 S1 f1
end
end K82

namespace K82
open PySem PyProof.Rows L2 My Ru I6
open Builtin (bitAnd bitOr)
def okD (o : Nat) : Nat → Bool := if decide (o < 32) = true then (fun o => decide (o < 32)) else (fun o => !decide (o < 32))
theorem okD_self (o : Nat) : okD o o = true := by
  unfold okD
  by_cases h : o < 32
  · rw [if_pos (decide_eq_true h)]; exact decide_eq_true h
  · rw [if_neg (by rw [decide_eq_false h]; exact Bool.false_ne_true)]
    show (!decide (o < 32)) = true
    rw [decide_eq_false h]; rfl
def Dd (K : PySem.W.Frag) (f : Addr) (sp : Sp) : Prop := ∃ o : Nat, isDd o = true ∧ f = He.ga K (dnm o) ∧ sp = spD (okD o) K
theorem MS.men {K : PySem.W.Frag} {H : Hp} {a C dx : Addr} {m : Mc} {mm : Mm} {c : Cfg} {s : PS} (S : MS K H a C dx m mm c s) (h : s.en = none) : m.en = .non := by
  rcases S.en with ⟨_, z⟩ | ⟨vs, t, z, _⟩
  · exact z
  · rw [h] at z; cases z
theorem st_none {c : Cfg} {mm : Mm} {s : PS} (e : wnO c s.pc = none) : stepP c mm s = { s with en := some (asV s.pc) } := by
  unfold stepP; rw [e]
theorem st_bad {c : Cfg} {mm : Mm} {s : PS} {i : Nat} (e : wnO c s.pc = some i) (d : decM (c.ws.getD i 0) = none) : stepP c mm s = { s with en := some (asV s.pc) } := by
  unfold stepP; rw [e]; dsimp only; rw [d]
theorem st_op {c : Cfg} {mm : Mm} {s : PS} {i o : Nat} (e : wnO c s.pc = some i) (d : decM (c.ws.getD i 0) = some o) : stepP c mm s = doI mm o (rd (fo o) (c.ws.getD i 0)) s := by
  unfold stepP; rw [e]; dsimp only; rw [d]
theorem wd_at {c : Cfg} {i : Nat} (h : i < c.ws.length) : c.ws[i]? = some (c.ws.getD i 0) := by
  rw [List.getD_eq_getElem?_getD, List.getElem?_eq_getElem h]; rfl
theorem OkM.up {mm : Mm} {s s' : PS} (O : OkM mm s) (h1 : s'.dat = s.dat) (h2 : s'.stk = s.stk) : OkM mm s' := by
  obtain ⟨a, b, c, d, e, f⟩ := O
  exact ⟨a, b, by rw [h1]; exact c, by rw [h2]; exact d, by rw [h1]; exact e, by rw [h2]; exact f⟩
section
variable {P : Program} {w : World} {K : PySem.W.Frag} {mg : Str → Option Value} {base : Heap}
theorem sc_do_instruction : FnScope ["processor", "instruction", "deed"] ["processor", "instruction"] (defScope s_do_instruction) := ⟨rfl, rfl, rfl, by decide +kernel, rfl, by decide +kernel, by decide +kernel⟩
theorem g_do_instruction (T : Txt K mg w) (G__load : Gd P w K mg base CX0 3 "_load" ["processor", "instruction"] (sp__load K)) (G__store : Gd P w K mg base CX0 3 "_store" ["processor", "instruction"] (sp__store K)) (G_word_of : Gd P w K mg base CX0 1 "word_of" ["number"] (sp_word_of K)) : Gd P w K mg base CX0 4 "do_instruction" ["processor", "instruction"] (sp_do_instruction K) := by
  have sc := sc_do_instruction
  refine T.d_do_instruction.ok sc len2 (fun _ _ _ _ _ _ us hl => match us, hl with | [_, _], _ => rfl) (fun f cdv A outer s H vs Q E hr h => ?_)
  obtain ⟨x0, x1, rfl, h⟩ := h
  obtain ⟨a, p, C, dx, m, mm, c, s, o, q, rfl, rfl, hd, hq, S, OM, hen, hp, h⟩ := h
  have HB_deed : ∀ f sp, Dd K f sp → Held P w K mg base CX0 3 f sp := by
    rintro f sp ⟨o, ho, rfl, rfl⟩
    unfold okD dnm
    by_cases z : o < 32
    · rw [if_pos (decide_eq_true z), if_pos (decide_eq_true z)]
      exact held_of (sp := sp__load K) G__load (by omega) T.ga__load
    · rw [if_neg (by rw [decide_eq_false z]; exact Bool.false_ne_true), if_neg (by rw [decide_eq_false z]; exact Bool.false_ne_true)]
      exact held_of (sp := sp__store K) G__store (by omega) T.ga__store
  refine ⟨_, (pss_cons (ps_fldaug (pv 0) pe_int in_add)
      (pss_cons (ps_fld (pv 0) (pe_g G_word_of (hr.mono (by omega)) pass0 (pa_cons (pe_op op_add (pe_fld (pv 0) rfl) (pe_gint T.c_BYTES_instructiondeeds)) pa_nil)) rfl)
      (pss_cons (ps_set (i := 2) sc.nd rfl (Or.inl rfl) (pe_ix ix_kdict (pe_gref T.c_DEEDS) (pe_ix ix_tup (pv 1) pe_int (fun _ _ => rfl)) (fun _ _ => rfl)))
      (pss_cons (ps_expr (Ru.pe_callV (i := 2) HB_deed (hr.mono (by omega)) rfl (Or.inl rfl) pass0 (pa_cons (pv 0) (pa_cons (pv 1) pa_nil))))
      (pss_one (ps_if (pt_cmpR op_isN (pe_fld (pv 0) rfl) pe_non (nomark _)) (pss_one (ps_fld (pv 0) (pe_fld (pv 0) rfl) rfl)) pss_nil)))))), ?_⟩
  have M := S.M
  refine ⟨_, rfl, a, C, dx, _, _, rfl, M.at_, T.cls M.cl, T.na M.cl mf_steps, lk_steps m, _, _, rfl, rfl, dx, _, M.at_, mfs_len M.xo, ?_⟩
  rw [pf_steps]
  obtain ⟨S1, f1⟩ := S.fsp (m.sp + 1) (s.sp + 1) (by rw [S.sp])
  generalize upd H a (.ins C dx (mfs { m with sp := m.sp + 1 })) = H1 at S1 f1 ⊢
  refine ⟨_, rfl, a, C, dx, _, _, rfl, S1.M.at_, T.cls M.cl, T.na M.cl mf_pc, lk_pc _, _, _, rfl, rfl, _, rfl, _, rfl, ?_⟩
  refine ⟨_, rfl, a, C, dx, _, rfl, S1.M.at_, T.cls M.cl, T.na M.cl mf_next_pc, mfs_len S1.M.xo, ?_⟩
  rw [pf_next_pc]
  obtain ⟨S2, f2⟩ := S1.fnx ((m.pc + 4) % 4294967296) ((s.pc + 4) % 4294967296) (by rw [S.pc])
  have f12 := f1.trans f2
  clear f1 f2 S1
  have hp2 := S.tup4 f12.bt hp
  have kd := T.d_tab o hd
  refine ⟨_, rfl, p, _, 0, _, rfl, rfl, SqT.of hp2, rfl, _, _, _, rfl, rfl, kd, ?_⟩
  refine ⟨_, _, rfl, ⟨o, hd, rfl, rfl⟩, _, rfl, _, rfl, ?_⟩
  refine ⟨_, _, rfl, a, p, C, dx, _, mm, c, _, o, q, rfl, rfl, hd, okD_self o, hq, S2, OM.up rfl rfl, hen, hp2, fun H3 m3 S3 f3 => ?_⟩
  have h : Nx K H a C dx m mm c (fin1 (doD mm o q { s with sp := s.sp + 1, nx := (s.pc + 4) % 4294967296 })) Q := h
  have S3 : MS K H3 a C dx m3 mm c (doD mm o q { s with sp := s.sp + 1, nx := (s.pc + 4) % 4294967296 }) := S3
  generalize doD mm o q { s with sp := s.sp + 1, nx := (s.pc + 4) % 4294967296 } = z at h S3
  rcases S3.en with ⟨e3, e4⟩ | ⟨vs, t, e3, e4, _⟩
  · have e : fin1 z = { z with pc := z.nx } := by unfold fin1; rw [e3]
    rw [e] at h
    refine ⟨_, rfl, a, C, dx, _, _, rfl, S3.M.at_, T.cls M.cl, T.na M.cl mf_ended, lk_ended _, rfl, _, rfl, if_true_of (decide_eq_true e4) ?_⟩
    refine ⟨_, rfl, a, C, dx, _, _, rfl, S3.M.at_, T.cls M.cl, T.na M.cl mf_next_pc, lk_next_pc _, ?_⟩
    refine ⟨_, rfl, a, C, dx, _, rfl, S3.M.at_, T.cls M.cl, T.na M.cl mf_pc, mfs_len S3.M.xo, ?_⟩
    rw [pf_pc]
    obtain ⟨S4, f4⟩ := S3.fpc m3.nx z.nx S3.nx
    exact h _ _ S4 (f12.trans (f3.trans f4))
  · have e : fin1 z = z := by unfold fin1; rw [e3]
    rw [e] at h
    refine ⟨_, rfl, a, C, dx, _, _, rfl, S3.M.at_, T.cls M.cl, T.na M.cl mf_ended, lk_ended _, rfl, _, rfl, if_false_of (decide_eq_false (by rw [e4]; exact fun z => by cases z)) ?_⟩
    exact h _ _ S3 (f12.trans f3)
theorem sc_Machine_step : FnScope ["self", "number", "instruction"] ["self"] (defScope s_Machine_step) := ⟨rfl, rfl, rfl, by decide +kernel, rfl, by decide +kernel, by decide +kernel⟩
theorem g_Machine_step (T : Txt K mg w) (G_Processor_word_number : Gm P w K mg base CX0 1 (He.ga K "Processor") "word_number" ["self"] (sp_Processor_word_number K)) (G_decode : Gd P w K mg base CX0 3 "decode" ["word"] (sp_decode K)) (G_Processor_go_astray : Gm P w K mg base CX0 1 (He.ga K "Processor") "go_astray" ["self"] (sp_Processor_go_astray K)) (G_do_instruction : Gd P w K mg base CX0 4 "do_instruction" ["processor", "instruction"] (sp_do_instruction K)) : Gm P w K mg base CX0 5 (He.ga K "Machine") "step" ["self"] (sp_Machine_step K) := by
  have sc := sc_Machine_step
  refine T.d_Machine_step.ok sc len1 (fun _ _ _ _ _ _ us hl => match us, hl with | [_], _ => rfl) (fun f cdv A outer s H vs Q E hr h => ?_)
  obtain ⟨x0, rfl, h⟩ := h
  obtain ⟨a, dx, m, mm, c, s, rfl, S, O, OM, hen, h⟩ := h
  refine ⟨_, (pss_cons (ps_if (pt_cmpR op_notN (pe_fld (pv 0) rfl) pe_non (nomark _)) (pss_one ps_retN) pss_nil)
      (pss_cons (ps_set (i := 1) sc.nd rfl (Or.inl rfl) (Mh.pe_gm20 (i := 0) (pv 0) T.cl_Machine.c T.cl_ReadyMachine.c (Mh.Gm.heir G_Processor_word_number T.hi_Machine_word_number) (Mh.Gm.heir G_Processor_word_number T.hi_ReadyMachine_word_number) (hr.mono (by omega)) pass0))
      (pss_cons (ps_set (i := 2) sc.nd rfl (Or.inl rfl) (pe_ifExp (pt_cmpR op_ge (pv 1) pe_int (nomark _)) (pe_g G_decode (hr.mono (by omega)) pass0 (pa_cons (pe_ix ix_tup (pe_fld (pv 0) rfl) (pv 1) (fun _ _ => rfl)) pa_nil)) pe_non))
      (pss_one (ps_if (pt_cmpR op_isN (pv 2) pe_non (nomark _)) (pss_one (ps_expr (Mh.pe_gm20 (i := 0) (pv 0) T.cl_Machine.c T.cl_ReadyMachine.c (Mh.Gm.heir G_Processor_go_astray T.hi_Machine_go_astray) (Mh.Gm.heir G_Processor_go_astray T.hi_ReadyMachine_go_astray) (hr.mono (by omega)) pass0))) (pss_one (ps_expr (pe_g G_do_instruction (hr.mono (by omega)) pass0 (pa_cons (pv 0) (pa_cons (pv 2) pa_nil)))))))))), ?_⟩
  have M := S.M
  have men := S.men hen
  refine ⟨_, rfl, a, _, dx, _, _, rfl, M.at_, T.cls M.cl, T.na M.cl mf_ended, lk_ended m, rfl, _, rfl, if_false_of (by rw [men]; rfl) ?_⟩
  refine ⟨a, _, dx, _, rfl, M.at_, M.cl, lk_word_number M.xo, _, rfl, a, _, dx, m, mm, c, s, rfl, S, O.b4, ?_⟩
  cases e : wnO c s.pc with
  | none =>
    rw [st_none e] at h
    refine ⟨_, rfl, _, _, rfl, rfl, _, rfl, if_false_of rfl ?_⟩
    refine ⟨_, rfl, rfl, _, rfl, if_true_of rfl ?_⟩
    refine ⟨a, _, dx, _, rfl, M.at_, M.cl, lk_go_astray M.xo, ?_⟩
    exact ⟨_, rfl, a, _, dx, m, mm, c, s, rfl, S, h⟩
  | some i =>
    have A := wn_of e O.b4
    have hw := wd_at A.1
    have ww := O.ws _ (List.mem_of_getElem? hw)
    refine ⟨_, rfl, _, _, rfl, rfl, _, rfl, if_true_of (decide_eq_true (by show (0 : Int) ≤ (i : Int); omega)) ?_⟩
    refine ⟨_, rfl, a, _, dx, _, _, rfl, M.at_, T.cls M.cl, T.na M.cl mf_words, lk_words m, _, rfl, m.wa, _, (i : Int), .int (c.ws.getD i 0), rfl, rfl, S.w, atI_nat (by rw [List.getElem?_map, hw]; rfl), ?_⟩
    refine ⟨_, rfl, c.ws.getD i 0, rfl, ww.1.1, ww.1.2, fun hno H1 s1 => ?_, fun o ho H1 p s1 hp => ?_⟩
    · rw [st_bad e hno] at h
      have S1 := S.same s1
      refine ⟨_, rfl, rfl, _, rfl, if_true_of rfl ?_⟩
      refine ⟨a, _, dx, _, rfl, S1.M.at_, M.cl, lk_go_astray M.xo, ?_⟩
      exact ⟨_, rfl, a, _, dx, m, mm, c, s, rfl, S1, h.same s1⟩
    · rw [st_op e ho] at h
      have dq := ww.2 o ho
      refine ⟨_, rfl, rfl, _, rfl, if_false_of (decide_eq_false (fun z => by cases z)) ?_⟩
      exact ⟨_, rfl, _, rfl, _, _, rfl, a, p, _, dx, m, mm, c, s, o, _, rfl, rfl, dq.1, dq.2, S.same s1, OM, hen, hp, h.same s1⟩
theorem sc_ReadyMachine_step : FnScope ["self", "number", "instruction"] ["self"] (defScope s_ReadyMachine_step) := ⟨rfl, rfl, rfl, by decide +kernel, rfl, by decide +kernel, by decide +kernel⟩
theorem g_ReadyMachine_step (T : Txt K mg w) (G_Processor_word_number : Gm P w K mg base CX0 1 (He.ga K "Processor") "word_number" ["self"] (sp_Processor_word_number K)) (G_Processor_go_astray : Gm P w K mg base CX0 1 (He.ga K "Processor") "go_astray" ["self"] (sp_Processor_go_astray K)) (G_do_instruction : Gd P w K mg base CX0 4 "do_instruction" ["processor", "instruction"] (sp_do_instruction K)) : Gm P w K mg base CX0 5 (He.ga K "ReadyMachine") "step" ["self"] (sp_ReadyMachine_step K) := by
  have sc := sc_ReadyMachine_step
  refine T.d_ReadyMachine_step.ok sc len1 (fun _ _ _ _ _ _ us hl => match us, hl with | [_], _ => rfl) (fun f cdv A outer s H vs Q E hr h => ?_)
  obtain ⟨x0, rfl, h⟩ := h
  obtain ⟨a, dx, m, mm, c, s, rfl, S, O, OM, hen, h⟩ := h
  refine ⟨_, (pss_cons (ps_if (pt_cmpR op_notN (pe_fld (pv 0) rfl) pe_non (nomark _)) (pss_one ps_retN) pss_nil)
      (pss_cons (ps_set (i := 1) sc.nd rfl (Or.inl rfl) (Mh.pe_gm20 (i := 0) (pv 0) T.cl_Machine.c T.cl_ReadyMachine.c (Mh.Gm.heir G_Processor_word_number T.hi_Machine_word_number) (Mh.Gm.heir G_Processor_word_number T.hi_ReadyMachine_word_number) (hr.mono (by omega)) pass0))
      (pss_cons (ps_set (i := 2) sc.nd rfl (Or.inl rfl) (pe_ifExp (pt_cmpR op_ge (pv 1) pe_int (nomark _)) (pe_ix ix_list (pe_fld (pv 0) rfl) (pv 1) (fun _ _ => rfl)) pe_non))
      (pss_one (ps_if (pt_cmpR op_isN (pv 2) pe_non (nomark _)) (pss_one (ps_expr (Mh.pe_gm20 (i := 0) (pv 0) T.cl_Machine.c T.cl_ReadyMachine.c (Mh.Gm.heir G_Processor_go_astray T.hi_Machine_go_astray) (Mh.Gm.heir G_Processor_go_astray T.hi_ReadyMachine_go_astray) (hr.mono (by omega)) pass0))) (pss_one (ps_expr (pe_g G_do_instruction (hr.mono (by omega)) pass0 (pa_cons (pv 0) (pa_cons (pv 2) pa_nil)))))))))), ?_⟩
  have M := S.M
  have men := S.men hen
  obtain ⟨l, vs, hxs, hl, _, _, _, hI⟩ := S.cr rfl
  have lki : (mfs m).lookup ("instructions" : Str) = some (.ref l) := by
    unfold mfs
    rw [hxs]
    rfl
  refine ⟨_, rfl, a, _, dx, _, _, rfl, M.at_, T.cls M.cl, T.na M.cl mf_ended, lk_ended m, rfl, _, rfl, if_false_of (by rw [men]; rfl) ?_⟩
  refine ⟨a, _, dx, _, rfl, M.at_, M.cl, lk_word_number M.xo, _, rfl, a, _, dx, m, mm, c, s, rfl, S, O.b4, ?_⟩
  cases e : wnO c s.pc with
  | none =>
    rw [st_none e] at h
    refine ⟨_, rfl, _, _, rfl, rfl, _, rfl, if_false_of rfl ?_⟩
    refine ⟨_, rfl, rfl, _, rfl, if_true_of rfl ?_⟩
    refine ⟨a, _, dx, _, rfl, M.at_, M.cl, lk_go_astray M.xo, ?_⟩
    exact ⟨_, rfl, a, _, dx, m, mm, c, s, rfl, S, h⟩
  | some i =>
    have A := wn_of e O.b4
    have hw := wd_at A.1
    have ww := O.ws _ (List.mem_of_getElem? hw)
    have hi := hI.2 i A.1 _ hw
    refine ⟨_, rfl, _, _, rfl, rfl, _, rfl, if_true_of (decide_eq_true (by show (0 : Int) ≤ (i : Int); omega)) ?_⟩
    cases ho : decM (c.ws.getD i 0) with
    | none =>
      rw [st_bad e ho] at h
      refine ⟨_, rfl, a, _, dx, _, _, rfl, M.at_, T.cls M.cl, T.na M.cl mf_instructions, lki, _, rfl, l, _, (i : Int), .non, rfl, rfl, SqL.of hl, atI_nat (hi.1 ho), ?_⟩
      refine ⟨_, rfl, rfl, _, rfl, if_true_of rfl ?_⟩
      refine ⟨a, _, dx, _, rfl, M.at_, M.cl, lk_go_astray M.xo, ?_⟩
      exact ⟨_, rfl, a, _, dx, m, mm, c, s, rfl, S, h⟩
    | some o =>
      rw [st_op e ho] at h
      obtain ⟨p, hp1, hp2⟩ := hi.2 o ho
      have dq := ww.2 o ho
      refine ⟨_, rfl, a, _, dx, _, _, rfl, M.at_, T.cls M.cl, T.na M.cl mf_instructions, lki, _, rfl, l, _, (i : Int), .ref p, rfl, rfl, SqL.of hl, atI_nat hp1, ?_⟩
      refine ⟨_, rfl, rfl, _, rfl, if_false_of (decide_eq_false (fun z => by cases z)) ?_⟩
      exact ⟨_, rfl, _, rfl, _, _, rfl, a, p, _, dx, m, mm, c, s, o, _, rfl, rfl, dq.1, dq.2, S, OM, hen, hp2, h⟩
theorem sc_Machine_field_at : FnScope ["self", "address"] ["self", "address"] (defScope s_Machine_field_at) := ⟨rfl, rfl, rfl, by decide +kernel, rfl, by decide +kernel, by decide +kernel⟩
theorem g_Machine_field_at (T : Txt K mg w) (G_Memory_find : Gm P w K mg base CX0 1 (He.ga K "Memory") "find" ["self", "address", "many"] (sp_Memory_find K)) : Gm P w K mg base CX0 2 (He.ga K "Machine") "field_at" ["self", "address"] (sp_Machine_field_at K) := by
  have sc := sc_Machine_field_at
  refine T.d_Machine_field_at.ok sc len2 (fun _ _ _ _ _ _ us hl => match us, hl with | [_, _], _ => rfl) (fun f cdv A outer s H vs Q E hr h => ?_)
  obtain ⟨x0, x1, rfl, h⟩ := h
  obtain ⟨a, dx, m, mm, c, s, ad, rfl, rfl, S, h⟩ := h
  refine ⟨_, (pss_one (ps_ret (pe_gm (pe_fld (pv 0) rfl) T.cl_Memory.c G_Memory_find (hr.mono (by omega)) pass0 (pa_cons (pv 1) (pa_cons (pe_gint T.c_WORD_BYTES_machine) pa_nil))))), ?_⟩
  have M := S.M
  obtain ⟨dm, hme⟩ := S.me
  refine ⟨_, rfl, a, _, dx, _, _, rfl, M.at_, T.cls M.cl, T.na M.cl mf_memory, lk_memory m, ?_⟩
  refine ⟨m.me, dm, _, rfl, hme, rfl, _, rfl, ?_⟩
  exact ⟨_, _, _, rfl, m.me, dm, mm, ad, 4, rfl, rfl, rfl, Or.inr (Or.inr rfl), hme, h⟩
theorem sc_ReadyMachine_field_at : FnScope ["self", "address"] ["self", "address"] (defScope s_ReadyMachine_field_at) := ⟨rfl, rfl, rfl, by decide +kernel, rfl, by decide +kernel, by decide +kernel⟩
theorem g_ReadyMachine_field_at (T : Txt K mg w) (G_Memory_find : Gm P w K mg base CX0 1 (He.ga K "Memory") "find" ["self", "address", "many"] (sp_Memory_find K)) : Gm P w K mg base CX0 2 (He.ga K "ReadyMachine") "field_at" ["self", "address"] (sp_ReadyMachine_field_at K) := by
  have sc := sc_ReadyMachine_field_at
  refine T.d_ReadyMachine_field_at.ok sc len2 (fun _ _ _ _ _ _ us hl => match us, hl with | [_, _], _ => rfl) (fun f cdv A outer s H vs Q E hr h => ?_)
  obtain ⟨x0, x1, rfl, h⟩ := h
  obtain ⟨a, dx, m, mm, c, s, ad, rfl, rfl, S, h⟩ := h
  refine ⟨_, (pss_one (ps_ret (pe_gm (pe_fld (pv 0) rfl) T.cl_Memory.c G_Memory_find (hr.mono (by omega)) pass0 (pa_cons (pv 1) (pa_cons (pe_gint T.c_WORD_BYTES_readymachine) pa_nil))))), ?_⟩
  have M := S.M
  obtain ⟨dm, hme⟩ := S.me
  refine ⟨_, rfl, a, _, dx, _, _, rfl, M.at_, T.cls M.cl, T.na M.cl mf_memory, lk_memory m, ?_⟩
  refine ⟨m.me, dm, _, rfl, hme, rfl, _, rfl, ?_⟩
  exact ⟨_, _, _, rfl, m.me, dm, mm, ad, 4, rfl, rfl, rfl, Or.inr (Or.inr rfl), hme, h⟩
end
end K82

namespace K82
open PySem PyProof.Rows L2 My Ru I6
open Builtin (bitAnd bitOr)
theorem SqT.but {K : PySem.W.Frag} {H H' : Hp} {a p C dx : Addr} {fs : List (Str × V)} {xs : List V} (b : ButL [a] H H') (e : H a = some (.ins C dx fs)) (h : SqT K H p xs) : SqT K H' p xs := by
  rcases h with (h | ⟨o, h⟩) | h
  · exact .inl (.inl (b _ _ h (by simpa using ne_of h e (fun z => by cases z))))
  · exact .inl (.inr ⟨o, b _ _ h (by simpa using ne_of h e (fun z => by cases z))⟩)
  · exact .inr h
theorem ImAt.but {K : PySem.W.Frag} {H H' : Hp} {a p wa da pl tr C dx : Addr} {fs : List (Str × V)} {ws : List Int} {ds ps : List V} {stk b : Int} (h : ImAt K H p wa da pl tr ws ds ps stk b) (bt : ButL [a] H H') (e : H a = some (.ins C dx fs)) : ImAt K H' p wa da pl tr ws ds ps stk b := by
  obtain ⟨⟨v5, v6, z⟩, w, d, q⟩ := h
  exact ⟨⟨v5, v6, bt _ _ z (by simpa using ne_of z e (fun z => by cases z))⟩, SqT.but bt e w, SqT.but bt e d, SqT.but bt e q⟩
theorem ImAt.same {K : PySem.W.Frag} {H H' : Hp} {p wa da pl tr : Addr} {ws : List Int} {ds ps : List V} {stk b : Int} (h : ImAt K H p wa da pl tr ws ds ps stk b) (s : Same H H') : ImAt K H' p wa da pl tr ws ds ps stk b := by
  obtain ⟨⟨v5, v6, z⟩, w, d, q⟩ := h
  exact ⟨⟨v5, v6, s _ _ z⟩, SqT.same s w, SqT.same s d, SqT.same s q⟩
theorem ButL.fld {a : Addr} {H G : Hp} {o : HO} (b : ButL [a] H G) : ButL [a] H (upd G a o) := ButL.trans b (ButL.put (by simp))
def zerosV (stk : Int) : List V := (List.replicate ((stk + 4 - 1) / 4 : Int).toNat [V.int 0]).flatten
def sp_Memory___init__ (K : PySem.W.Frag) : Sp := sp2 fun x y H Q _ => ∃ (a dx p wa da pl tr : Addr) (ws : List Int) (ds ps : List V) (stk b : Int), x = .ref a ∧ y = .ref p ∧ 0 ≤ stk ∧ stk ≤ 1000 ∧ H a = some (.ins (CE K) dx []) ∧ ImAt K H p wa da pl tr ws ds ps stk b ∧
  ∀ (H' : Hp) (mm : Mm), ButL [a] H H' → H' a = some (.ins (CE K) dx (mmF mm)) → H' mm.da = some (.lst ds) → H' mm.sa = some (.lst (zerosV stk)) → mm.da ≠ mm.sa → H mm.da = none → H mm.sa = none → mm.ds = bh (b + 4 * (ws.length : Int)) → mm.de = mm.ds + 4 * (ds.length : Int) → mm.ss = bh (mm.ds + 4 * (ds.length : Int)) → mm.se = mm.ss + stk → Q .non H'
structure TrAt (K : PySem.W.Frag) (H : Hp) (tr : Addr) (kvs : List (Key × V)) : Prop where
  ex : ∃ (o : Obj) (ts : List Addr), H tr = some (.frz o (.tup (ts.map V.ref))) ∧ o.dict = none ∧ Paired (fun p kv => SqT K H p [kV kv.1, kv.2]) ts kvs
theorem paired_imp {α β : Type} {R S : α → β → Prop} (f : ∀ a b, R a b → S a b) : ∀ {as : List α} {bs : List β}, Paired R as bs → Paired S as bs
  | _, _, .nil => .nil
  | _, _, .cons h t => .cons (f _ _ h) (paired_imp f t)
theorem TrAt.but {K : PySem.W.Frag} {H H' : Hp} {a tr C dx : Addr} {fs : List (Str × V)} {kvs : List (Key × V)} (h : TrAt K H tr kvs) (bt : ButL [a] H H') (e : H a = some (.ins C dx fs)) : TrAt K H' tr kvs := by
  obtain ⟨o, ts, h1, h2, h3⟩ := h.ex
  exact ⟨o, ts, bt _ _ h1 (by simpa using ne_of h1 e (fun z => by cases z)), h2, paired_imp (fun p kv z => SqT.but bt e z) h3⟩
theorem TrAt.same {K : PySem.W.Frag} {H H' : Hp} {tr : Addr} {kvs : List (Key × V)} (h : TrAt K H tr kvs) (s : Same H H') : TrAt K H' tr kvs := by
  obtain ⟨o, ts, h1, h2, h3⟩ := h.ex
  exact ⟨o, ts, s _ _ h1, h2, paired_imp (fun p kv z => SqT.same s z) h3⟩
/-- a new machine -/
structure NewM (K : PySem.W.Frag) (H' : Hp) (a wa : Addr) (nw : Nat) (ds : List V) (stk b : Int) (m : Mc) (mm : Mm) : Prop where
  wa_ : m.wa = wa
  st_ : m.st = b
  pc_ : m.pc = b
  nx_ : m.nx = b
  sp_ : m.sp = 0
  tk_ : m.tk = 0
  tk2_ : m.tk = 0
  en_ : m.en = .non
  rg_ : H' m.rg = some (.lst ((List.replicate 32 (0 : Int)).map V.int))
  ne_ : m.rg ≠ a
  me_ : ∃ dm, H' m.me = some (.ins (CE K) dm (mmF mm))
  nme_ : m.me ≠ a
  da_ : H' mm.da = some (.lst ds)
  sa_ : H' mm.sa = some (.lst (zerosV stk))
  ds_ : mm.da ≠ mm.sa
  dr_ : mm.da ≠ m.rg
  sr_ : mm.sa ≠ m.rg
  q1_ : mm.ds = bh (b + 4 * (nw : Int))
  q2_ : mm.de = mm.ds + 4 * (ds.length : Int)
  q3_ : mm.ss = bh (mm.ds + 4 * (ds.length : Int))
  q4_ : mm.se = mm.ss + stk
def spInit (K : PySem.W.Frag) (okC : Addr → Prop) (xs : Hp → Mc → Mm → List Int → Prop) : Sp := sp3 fun x y z H Q _ => ∃ (a C dx p wa da pl tr l : Addr) (ws : List Int) (ds ps : List V) (stk b : Int) (kvs : List (Key × V)) (ys : List V), x = .ref a ∧ y = .ref p ∧ z = .ref l ∧ okC C ∧ H a = some (.ins C dx []) ∧ SqL K H l ys ∧ 0 ≤ stk ∧ stk ≤ 1000 ∧
  ImAt K H p wa da pl tr ws ds ps stk b ∧ TrAt K H tr kvs ∧ ((∀ w ∈ ws, 0 ≤ w ∧ w < 4294967296) ∧ ws.length ≤ 1000) ∧ ∀ (H' : Hp) (m : Mc) (mm : Mm), ButL [a] H H' → H' a = some (.ins C dx (mfs m)) → NewM K H' a wa ws.length ds stk b m mm → xs H' m mm ws → H m.rg = none → H mm.da = none → H mm.sa = none → Q .non H'
def sp_Processor___init__ (K : PySem.W.Frag) : Sp := spInit K (fun C => C = CM K ∨ C = CR K) (fun _ m _ _ => m.xs = [])
theorem SqL.but {K : PySem.W.Frag} {H H' : Hp} {a p C dx : Addr} {fs : List (Str × V)} {xs : List V} (b : ButL [a] H H') (e : H a = some (.ins C dx fs)) (h : SqL K H p xs) : SqL K H' p xs := by
  rcases h with (h | ⟨o, h⟩) | h
  · exact .inl (.inl (b _ _ h (by simpa using ne_of h e (fun z => by cases z))))
  · exact .inl (.inr ⟨o, b _ _ h (by simpa using ne_of h e (fun z => by cases z))⟩)
  · exact .inr h
theorem new_obj {G H1 : Hp} {mx md : Addr} {o1 o2 : HO} (hx : G mx = none) (hd : G md = none) (nd : md ≠ mx) (b1 : ButL [mx] (upd (upd G md o1) mx o2) H1) : Same G H1 := fun b o e =>
  b1 b o (by rw [upd_ne (ne_of_none e hx), upd_ne (ne_of_none e hd)]; exact e) (by simpa using ne_of_none e hx)
theorem own_none {G : Hp} {mx md : Addr} {o : HO} (hx : G mx = none) (nd : md ≠ mx) : upd G md o mx = none := by rw [upd_ne nd.symm]; exact hx
theorem pe_mkG {X : Cx} {CX : CXT} {k : Nat} {C : Addr} {x : Str} {ps : List Str} {sp : Sp} {E : XK} {p pos : Pos} {e : Expr} {es : List Expr} {t : TA} (h : Gm X.prog X.w X.K X.mg X.base CX k C "__init__" ps sp) (M : PySem.W.makesIn X.K C = true ∧ PySem.W.keepIn X.K (.ref C) = true) (hm : X.mg x = some (.ref C)) (hr : Room (k + 1) X.A) (hx : Passes CX X E) (ha : PA X (e :: es) t) (hg : Gl X x := by rfl)
    (hdb : (x == ("__debug__" : Str)) = false := by decide) (he : starEach (e :: es) X.env = (false, eval e X.env) :: starEach es X.env := by rfl) (hpl : (backTo pos (starEach es X.env)).any (·.1) = false := by rfl) : PE X (.Call (.Name x p) (e :: es) [] pos) (tMake C sp [] E t) := by
  obtain ⟨f, fd, m, F, b⟩ := h.ex
  exact pe_make ⟨M.1, m.at_, m.fn, M.2⟩ F hr hg hm b .nil hx ha hdb he hpl
theorem same2 {H : Hp} {x dx : Addr} {o1 o2 : HO} (hx : H x = none) (hd : H dx = none) (nd : dx ≠ x) : Same H (upd (upd H dx o1) x o2) := Same.tr (same_new hd) (same_new (own_none hx nd))
section
variable {P : Program} {w : World} {K : PySem.W.Frag} {mg : Str → Option Value} {base : Heap}
theorem sc_Memory___init__ : FnScope ["self", "image", "_", "data", "stack"] ["self", "image"] (defScope s_Memory___init__) := ⟨rfl, rfl, rfl, by decide +kernel, rfl, by decide +kernel, by decide +kernel⟩
theorem g_Memory___init__ (T : Txt K mg w) (G_data_start : Gd P w K mg base CX0 2 "data_start" ["image"] (sp_data_start K)) (G_stack_start : Gd P w K mg base CX0 3 "stack_start" ["image"] (sp_stack_start K)) : Gm P w K mg base CX0 4 (He.ga K "Memory") "__init__" ["self", "image"] (sp_Memory___init__ K) := by
  have sc := sc_Memory___init__
  refine T.d_Memory___init__.ok sc len2 (fun _ _ _ _ _ _ us hl => match us, hl with | [_, _], _ => rfl) (fun f cdv A outer s H vs Q E hr h => ?_)
  obtain ⟨x0, x1, rfl, h⟩ := h
  obtain ⟨a, dx, p, wa, da, pl, tr, ws, ds, ps, stk, b, rfl, rfl, k0, k1, ha, im, h⟩ := h
  refine ⟨_, (pss_cons (ps_asg (pv 1) (pg_tup rfl (pgs_cons (pg_name (i := 2) sc.nd rfl (Or.inl rfl)) (pgs_cons (pg_name (i := 3) sc.nd rfl (Or.inl rfl)) (pgs_cons (pg_name (i := 4) sc.nd rfl (Or.inl rfl)) (pgs_cons (pg_name (i := 2) sc.nd rfl (Or.inl rfl)) (pgs_cons (pg_name (i := 2) sc.nd rfl (Or.inl rfl)) (pgs_cons (pg_name (i := 2) sc.nd rfl (Or.inl rfl)) (pgs_cons (pg_name (i := 2) sc.nd rfl (Or.inl rfl)) (pgs_cons (pg_name (i := 2) sc.nd rfl (Or.inl rfl)) (pgs_cons (pg_name (i := 2) sc.nd rfl (Or.inl rfl)) pgs_nil)))))))))))
      (pss_cons (ps_fld (pv 0) (pe_callTy call_list_of (by rfl) T.n_list (by decide +kernel) (pa_cons (pv 3) pa_nil)) rfl)
      (pss_cons (ps_fld (pv 0) (pe_g G_data_start (hr.mono (by omega)) pass0 (pa_cons (pv 1) pa_nil)) rfl)
      (pss_cons (ps_fld (pv 0) (pe_op op_add (pe_fld (pv 0) rfl) (pe_op op_mul (pe_gint T.c_BYTES_memory) (pe_callB call_len_seq (by rfl) T.n_len PySem.boot_len (pa_cons (pv 3) pa_nil)))) rfl)
      (pss_cons (ps_fld (pv 0) (pe_op op_rep (pe_lst (pa_cons pe_int pa_nil)) (pe_op op_fdiv (pe_op op_sub (pe_op op_add (pv 4) (pe_gint T.c_BYTES_memory)) pe_int) (pe_gint T.c_BYTES_memory))) rfl)
      (pss_cons (ps_fld (pv 0) (pe_g G_stack_start (hr.mono (by omega)) pass0 (pa_cons (pv 1) pa_nil)) rfl)
      (pss_one (ps_fld (pv 0) (pe_op op_add (pe_fld (pv 0) rfl) (pv 4)) rfl)))))))), ?_⟩
  obtain ⟨v5, v6, hp⟩ := im.at_
  have b0 : ButL [a] H H := ButL.refl
  refine ⟨_, rfl, p, _, rfl, SqT.of hp, rfl, _, _, rfl, _, _, rfl, _, _, rfl, _, _, rfl, _, _, rfl, _, _, rfl, _, _, rfl, _, _, rfl, _, _, rfl, rfl, ?_⟩
  show ∃ v, _ ∧ _
  refine ⟨_, rfl, da, ds, rfl, Or.inr im.d, fun l1 h1 => ?_⟩
  refine ⟨_, rfl, a, _, dx, _, rfl, (same_new h1 _ _ ha), T.cl_Memory.c, T.na_Memory "data" (by decide +kernel), (by show 0 < 1000; decide), ?_⟩
  generalize hG : upd (upd H l1 (.lst ds)) a (.ins (CE K) dx (putF "data" (.ref l1) ([] : List (Str × V)))) = G1
  have e1 : G1 a = some (.ins (CE K) dx ([(("data" : Str), (.ref l1))] : List (Str × V))) := by rw [← hG]; exact upd_same
  have b1 : ButL [a] H G1 := by rw [← hG]; exact ButL.fld (ButL.trans b0 (ButL.same (same_new (o := (.lst ds)) h1)))
  have im1 := im.but b1 ha
  have n_kd : l1 ≠ a := fun z => by rw [z] at h1; cases (show _ = _ from h1.symm.trans ha)
  have kd1 : G1 l1 = some (.lst ds) := by rw [← hG]; exact (ButL.put (as := [a]) (by simp)) _ _ upd_same (by simpa using n_kd)
  clear hG
  refine ⟨_, rfl, _, rfl, p, wa, da, pl, tr, ws, ds, ps, stk, b, rfl, im1, ?_⟩
  refine ⟨_, rfl, a, _, dx, _, rfl, e1, T.cl_Memory.c, T.na_Memory "data_start" (by decide +kernel), (by show 1 < 1000; decide), ?_⟩
  generalize hG : upd G1 a (.ins (CE K) dx (putF "data_start" (.int (bh (b + 4 * (ws.length : Int)))) ([(("data" : Str), (.ref l1))] : List (Str × V)))) = G2
  have e2 : G2 a = some (.ins (CE K) dx ([(("data" : Str), (.ref l1)), (("data_start" : Str), (.int (bh (b + 4 * (ws.length : Int)))))] : List (Str × V))) := by rw [← hG]; exact upd_same
  have b2 : ButL [a] H G2 := by rw [← hG]; exact ButL.fld b1
  have im2 := im.but b2 ha
  have kd2 : G2 l1 = some (.lst ds) := by rw [← hG]; exact (ButL.put (as := [a]) (by simp)) _ _ kd1 (by simpa using n_kd)
  clear hG
  refine ⟨_, rfl, a, _, dx, _, _, rfl, e2, T.cl_Memory.c, T.na_Memory "data_start" (by decide +kernel), rfl, _, rfl, da, ds, rfl, Or.inr im2.d, _, _, rfl, rfl, Or.inl ⟨by decide, by decide⟩, _, _, rfl, rfl, ?_⟩
  refine ⟨_, rfl, a, _, dx, _, rfl, e2, T.cl_Memory.c, T.na_Memory "data_end" (by decide +kernel), (by show 2 < 1000; decide), ?_⟩
  generalize hG : upd G2 a (.ins (CE K) dx (putF "data_end" (.int (bh (b + 4 * (ws.length : Int)) + 4 * (ds.length : Int))) ([(("data" : Str), (.ref l1)), (("data_start" : Str), (.int (bh (b + 4 * (ws.length : Int)))))] : List (Str × V)))) = G3
  have e3 : G3 a = some (.ins (CE K) dx ([(("data" : Str), (.ref l1)), (("data_start" : Str), (.int (bh (b + 4 * (ws.length : Int))))), (("data_end" : Str), (.int (bh (b + 4 * (ws.length : Int)) + 4 * (ds.length : Int))))] : List (Str × V))) := by rw [← hG]; exact upd_same
  have b3 : ButL [a] H G3 := by rw [← hG]; exact ButL.fld b2
  have im3 := im.but b3 ha
  have kd3 : G3 l1 = some (.lst ds) := by rw [← hG]; exact (ButL.put (as := [a]) (by simp)) _ _ kd2 (by simpa using n_kd)
  clear hG
  refine ⟨(by show 1 ≤ sizeLine; decide), fun l2 h2 => ?_⟩
  refine ⟨_, rfl, _, _, rfl, rfl, _, _, rfl, rfl, _, _, rfl, rfl, ⟨by decide, by decide⟩, ?_⟩
  refine ⟨l2, _, [.int 0], rfl, rfl, upd_same, (by omega), (by omega), (by show 1 * _ ≤ _; rw [Nat.one_mul]; exact Nat.le_of_lt (tup_lt (by omega))), fun l3 h3 => ?_⟩
  have fr3 : H l3 = none := by
    cases e : H l3 with
    | none => rfl
    | some o =>
      have n4 : l3 ≠ a := fun z => by
        rw [z] at h3
        rw [same_new (o := .lst [V.int 0]) h2 _ _ e3] at h3
        cases h3
      have z1 := same_new (o := .lst [V.int 0]) h2 _ _ (b3 _ _ e (by simpa using n4))
      rw [z1] at h3
      cases h3
  have n13 : l1 ≠ l3 := (fun z => by rw [← z] at h3; rw [same_new (o := .lst [V.int 0]) h2 _ _ kd3] at h3; cases h3)
  refine ⟨_, rfl, a, _, dx, _, rfl, (same_new h3 _ _ (same_new h2 _ _ e3)), T.cl_Memory.c, T.na_Memory "stack" (by decide +kernel), (by show 3 < 1000; decide), ?_⟩
  generalize hG : upd (upd (upd G3 l2 (.lst [.int 0])) l3 (.lst (List.replicate ((stk + 4 - 1) / 4 : Int).toNat [V.int 0]).flatten)) a (.ins (CE K) dx (putF "stack" (.ref l3) ([(("data" : Str), (.ref l1)), (("data_start" : Str), (.int (bh (b + 4 * (ws.length : Int))))), (("data_end" : Str), (.int (bh (b + 4 * (ws.length : Int)) + 4 * (ds.length : Int))))] : List (Str × V)))) = G4
  have e4 : G4 a = some (.ins (CE K) dx ([(("data" : Str), (.ref l1)), (("data_start" : Str), (.int (bh (b + 4 * (ws.length : Int))))), (("data_end" : Str), (.int (bh (b + 4 * (ws.length : Int)) + 4 * (ds.length : Int)))), (("stack" : Str), (.ref l3))] : List (Str × V))) := by rw [← hG]; exact upd_same
  have b4 : ButL [a] H G4 := by rw [← hG]; exact ButL.fld (ButL.trans (ButL.trans b3 (ButL.same (same_new (o := (.lst [.int 0])) h2))) (ButL.same (same_new (o := (.lst (List.replicate ((stk + 4 - 1) / 4 : Int).toNat [V.int 0]).flatten)) h3)))
  have im4 := im.but b4 ha
  have kd4 : G4 l1 = some (.lst ds) := by rw [← hG]; exact (ButL.put (as := [a]) (by simp)) _ _ (same_new h3 _ _ (same_new h2 _ _ kd3)) (by simpa using n_kd)
  have n_ks : l3 ≠ a := fun z => by rw [z] at h3; cases (show _ = _ from h3.symm.trans (same_new h2 _ _ e3))
  have ks4 : G4 l3 = some (.lst (List.replicate ((stk + 4 - 1) / 4 : Int).toNat [V.int 0]).flatten) := by rw [← hG]; exact (ButL.put (as := [a]) (by simp)) _ _ upd_same (by simpa using n_ks)
  clear hG
  refine ⟨_, rfl, _, rfl, p, wa, da, pl, tr, ws, ds, ps, stk, b, rfl, im4, ?_⟩
  refine ⟨_, rfl, a, _, dx, _, rfl, e4, T.cl_Memory.c, T.na_Memory "stack_start" (by decide +kernel), (by show 4 < 1000; decide), ?_⟩
  generalize hG : upd G4 a (.ins (CE K) dx (putF "stack_start" (.int (bh (bh (b + 4 * (ws.length : Int)) + 4 * (ds.length : Int)))) ([(("data" : Str), (.ref l1)), (("data_start" : Str), (.int (bh (b + 4 * (ws.length : Int))))), (("data_end" : Str), (.int (bh (b + 4 * (ws.length : Int)) + 4 * (ds.length : Int)))), (("stack" : Str), (.ref l3))] : List (Str × V)))) = G5
  have e5 : G5 a = some (.ins (CE K) dx ([(("data" : Str), (.ref l1)), (("data_start" : Str), (.int (bh (b + 4 * (ws.length : Int))))), (("data_end" : Str), (.int (bh (b + 4 * (ws.length : Int)) + 4 * (ds.length : Int)))), (("stack" : Str), (.ref l3)), (("stack_start" : Str), (.int (bh (bh (b + 4 * (ws.length : Int)) + 4 * (ds.length : Int)))))] : List (Str × V))) := by rw [← hG]; exact upd_same
  have b5 : ButL [a] H G5 := by rw [← hG]; exact ButL.fld b4
  have im5 := im.but b5 ha
  have kd5 : G5 l1 = some (.lst ds) := by rw [← hG]; exact (ButL.put (as := [a]) (by simp)) _ _ kd4 (by simpa using n_kd)
  have ks5 : G5 l3 = some (.lst (List.replicate ((stk + 4 - 1) / 4 : Int).toNat [V.int 0]).flatten) := by rw [← hG]; exact (ButL.put (as := [a]) (by simp)) _ _ ks4 (by simpa using n_ks)
  clear hG
  refine ⟨_, rfl, a, _, dx, _, _, rfl, e5, T.cl_Memory.c, T.na_Memory "stack_start" (by decide +kernel), rfl, _, rfl, _, _, rfl, rfl, ?_⟩
  refine ⟨_, rfl, a, _, dx, _, rfl, e5, T.cl_Memory.c, T.na_Memory "stack_end" (by decide +kernel), (by show 5 < 1000; decide), ?_⟩
  generalize hG : upd G5 a (.ins (CE K) dx (putF "stack_end" (.int (bh (bh (b + 4 * (ws.length : Int)) + 4 * (ds.length : Int)) + stk)) ([(("data" : Str), (.ref l1)), (("data_start" : Str), (.int (bh (b + 4 * (ws.length : Int))))), (("data_end" : Str), (.int (bh (b + 4 * (ws.length : Int)) + 4 * (ds.length : Int)))), (("stack" : Str), (.ref l3)), (("stack_start" : Str), (.int (bh (bh (b + 4 * (ws.length : Int)) + 4 * (ds.length : Int)))))] : List (Str × V)))) = G6
  have e6 : G6 a = some (.ins (CE K) dx ([(("data" : Str), (.ref l1)), (("data_start" : Str), (.int (bh (b + 4 * (ws.length : Int))))), (("data_end" : Str), (.int (bh (b + 4 * (ws.length : Int)) + 4 * (ds.length : Int)))), (("stack" : Str), (.ref l3)), (("stack_start" : Str), (.int (bh (bh (b + 4 * (ws.length : Int)) + 4 * (ds.length : Int))))), (("stack_end" : Str), (.int (bh (bh (b + 4 * (ws.length : Int)) + 4 * (ds.length : Int)) + stk)))] : List (Str × V))) := by rw [← hG]; exact upd_same
  have b6 : ButL [a] H G6 := by rw [← hG]; exact ButL.fld b5
  have im6 := im.but b6 ha
  have kd6 : G6 l1 = some (.lst ds) := by rw [← hG]; exact (ButL.put (as := [a]) (by simp)) _ _ kd5 (by simpa using n_kd)
  have ks6 : G6 l3 = some (.lst (List.replicate ((stk + 4 - 1) / 4 : Int).toNat [V.int 0]).flatten) := by rw [← hG]; exact (ButL.put (as := [a]) (by simp)) _ _ ks5 (by simpa using n_ks)
  clear hG
  exact h _ ⟨l1, l3, bh (b + 4 * (ws.length : Int)), bh (b + 4 * (ws.length : Int)) + 4 * (ds.length : Int), bh (bh (b + 4 * (ws.length : Int)) + 4 * (ds.length : Int)), bh (bh (b + 4 * (ws.length : Int)) + 4 * (ds.length : Int)) + stk⟩ b6 e6 kd6 ks6 n13 h1 fr3 rfl rfl rfl rfl
theorem sc_Processor___init__ : FnScope ["self", "image", "inputs", "words", "_", "places", "traps", "base"] ["self", "image", "inputs"] (defScope s_Processor___init__) := ⟨rfl, rfl, rfl, by decide +kernel, rfl, by decide +kernel, by decide +kernel⟩
theorem g_Processor___init__ (T : Txt K mg w) (G_Memory___init__ : Gm P w K mg base CX0 4 (He.ga K "Memory") "__init__" ["self", "image"] (sp_Memory___init__ K)) : Gm P w K mg base CX0 6 (He.ga K "Processor") "__init__" ["self", "image", "inputs"] (sp_Processor___init__ K) := by
  have sc := sc_Processor___init__
  refine T.d_Processor___init__.ok sc len3 (fun _ _ _ _ _ _ us hl => match us, hl with | [_, _, _], _ => rfl) (fun f cdv A outer s H vs Q E hr h => ?_)
  obtain ⟨x0, x1, x2, rfl, h⟩ := h
  obtain ⟨a, C, dx, p, wa, da, pl, tr, l, ws, ds, ps, stk, b, kvs, ys, rfl, rfl, rfl, hC, ha, hys, k0, k1, im, tra, hws, h⟩ := h
  refine ⟨_, (pss_cons (ps_asg (pv 1) (pg_tup rfl (pgs_cons (pg_name (i := 3) sc.nd rfl (Or.inl rfl)) (pgs_cons (pg_name (i := 4) sc.nd rfl (Or.inl rfl)) (pgs_cons (pg_name (i := 4) sc.nd rfl (Or.inl rfl)) (pgs_cons (pg_name (i := 4) sc.nd rfl (Or.inl rfl)) (pgs_cons (pg_name (i := 5) sc.nd rfl (Or.inl rfl)) (pgs_cons (pg_name (i := 6) sc.nd rfl (Or.inl rfl)) (pgs_cons (pg_name (i := 4) sc.nd rfl (Or.inl rfl)) (pgs_cons (pg_name (i := 4) sc.nd rfl (Or.inl rfl)) (pgs_cons (pg_name (i := 7) sc.nd rfl (Or.inl rfl)) pgs_nil)))))))))))
      (pss_cons (ps_fld (pv 0) (pv 3) rfl)
      (pss_cons (ps_fld (pv 0) (pv 7) rfl)
      (pss_cons (ps_fld (pv 0) (pv 5) rfl)
      (pss_cons (ps_fld (pv 0) (pe_callTy (Mh.call_dictTup rfl) (by rfl) T.n_dict (by decide +kernel) (pa_cons (pv 6) pa_nil)) rfl)
      (pss_cons (ps_fld (pv 0) (pe_callTy call_tuple_of (by rfl) T.n_tuple (by decide +kernel) (pa_cons (pv 2) pa_nil)) rfl)
      (pss_cons (ps_fld (pv 0) pe_int rfl)
      (pss_cons (ps_fld (pv 0) (pe_mkG G_Memory___init__ T.mk_Memory T.cl_Memory.g (hr.mono (by omega)) pass0 (pa_cons (pv 1) pa_nil)) rfl)
      (pss_cons (ps_fld (pv 0) (pv 7) rfl)
      (pss_cons (ps_fld (pv 0) (pv 7) rfl)
      (pss_cons (ps_fld (pv 0) (pe_op op_rep (pe_lst (pa_cons pe_int pa_nil)) (pe_gint T.c_REGISTERS)) rfl)
      (pss_cons (ps_fld (pv 0) (pe_lst pa_nil) rfl)
      (pss_cons (ps_fld (pv 0) pe_int rfl)
      (pss_one (ps_fld (pv 0) pe_non rfl))))))))))))))), ?_⟩
  obtain ⟨v5, v6, hp⟩ := im.at_
  have b0 : ButL [a] H H := ButL.refl
  refine ⟨_, rfl, p, _, rfl, SqT.of hp, rfl, _, _, rfl, _, _, rfl, _, _, rfl, _, _, rfl, _, _, rfl, _, _, rfl, _, _, rfl, _, _, rfl, _, _, rfl, rfl, ?_⟩
  show ∃ v, _ ∧ _
  refine ⟨_, rfl, ?_⟩
  refine ⟨_, rfl, a, _, dx, _, rfl, ha, (T.cls hC), (T.na hC mf_words), (by show 0 < 1000; decide), ?_⟩
  generalize hG : upd H a (.ins C dx (putF "words" (.ref wa) ([] : List (Str × V)))) = G1
  have e1 : G1 a = some (.ins C dx ([(("words" : Str), (.ref wa))] : List (Str × V))) := by rw [← hG]; exact upd_same
  have b1 : ButL [a] H G1 := by rw [← hG]; exact ButL.fld b0
  have im1 := im.but b1 ha
  clear hG
  refine ⟨_, rfl, ?_⟩
  refine ⟨_, rfl, a, _, dx, _, rfl, e1, (T.cls hC), (T.na hC mf_start), (by show 1 < 1000; decide), ?_⟩
  generalize hG : upd G1 a (.ins C dx (putF "start" (.int b) ([(("words" : Str), (.ref wa))] : List (Str × V)))) = G2
  have e2 : G2 a = some (.ins C dx ([(("words" : Str), (.ref wa)), (("start" : Str), (.int b))] : List (Str × V))) := by rw [← hG]; exact upd_same
  have b2 : ButL [a] H G2 := by rw [← hG]; exact ButL.fld b1
  have im2 := im.but b2 ha
  clear hG
  refine ⟨_, rfl, ?_⟩
  refine ⟨_, rfl, a, _, dx, _, rfl, e2, (T.cls hC), (T.na hC mf_places), (by show 2 < 1000; decide), ?_⟩
  generalize hG : upd G2 a (.ins C dx (putF "places" (.ref pl) ([(("words" : Str), (.ref wa)), (("start" : Str), (.int b))] : List (Str × V)))) = G3
  have e3 : G3 a = some (.ins C dx ([(("words" : Str), (.ref wa)), (("start" : Str), (.int b)), (("places" : Str), (.ref pl))] : List (Str × V))) := by rw [← hG]; exact upd_same
  have b3 : ButL [a] H G3 := by rw [← hG]; exact ButL.fld b2
  have im3 := im.but b3 ha
  clear hG
  obtain ⟨oT, ts, ht1, ht2, ht3⟩ := (tra.but b3 ha).ex
  refine ⟨_, rfl, tr, oT, ts, kvs, rfl, ht1, ht2, ht3, fun l1 h1 => ?_⟩
  refine ⟨_, rfl, a, _, dx, _, rfl, (same_new h1 _ _ e3), (T.cls hC), (T.na hC mf_traps), (by show 3 < 1000; decide), ?_⟩
  generalize hG : upd (upd G3 l1 (.dK (mergeK [] kvs))) a (.ins C dx (putF "traps" (.ref l1) ([(("words" : Str), (.ref wa)), (("start" : Str), (.int b)), (("places" : Str), (.ref pl))] : List (Str × V)))) = G4
  have e4 : G4 a = some (.ins C dx ([(("words" : Str), (.ref wa)), (("start" : Str), (.int b)), (("places" : Str), (.ref pl)), (("traps" : Str), (.ref l1))] : List (Str × V))) := by rw [← hG]; exact upd_same
  have b4 : ButL [a] H G4 := by rw [← hG]; exact ButL.fld (ButL.trans b3 (ButL.same (same_new (o := (.dK (mergeK [] kvs))) h1)))
  have im4 := im.but b4 ha
  have n_kt : l1 ≠ a := fun z => by rw [z] at h1; cases (show _ = _ from h1.symm.trans e3)
  have kt4 : G4 l1 = some (.dK (mergeK [] kvs)) := by rw [← hG]; exact (ButL.put (as := [a]) (by simp)) _ _ upd_same (by simpa using n_kt)
  clear hG
  refine ⟨_, rfl, l, ys, rfl, Or.inl ⟨SqL.but b4 ha hys, fun l2 h2 => ?_⟩⟩
  refine ⟨_, rfl, a, _, dx, _, rfl, (same_new h2 _ _ e4), (T.cls hC), (T.na hC mf_inputs), (by show 4 < 1000; decide), ?_⟩
  generalize hG : upd (upd G4 l2 (.tup ys)) a (.ins C dx (putF "inputs" (.ref l2) ([(("words" : Str), (.ref wa)), (("start" : Str), (.int b)), (("places" : Str), (.ref pl)), (("traps" : Str), (.ref l1))] : List (Str × V)))) = G5
  have e5 : G5 a = some (.ins C dx ([(("words" : Str), (.ref wa)), (("start" : Str), (.int b)), (("places" : Str), (.ref pl)), (("traps" : Str), (.ref l1)), (("inputs" : Str), (.ref l2))] : List (Str × V))) := by rw [← hG]; exact upd_same
  have b5 : ButL [a] H G5 := by rw [← hG]; exact ButL.fld (ButL.trans b4 (ButL.same (same_new (o := (.tup ys)) h2)))
  have im5 := im.but b5 ha
  have kt5 : G5 l1 = some (.dK (mergeK [] kvs)) := by rw [← hG]; exact (ButL.put (as := [a]) (by simp)) _ _ (same_new h2 _ _ kt4) (by simpa using n_kt)
  have n_ki : l2 ≠ a := fun z => by rw [z] at h2; cases (show _ = _ from h2.symm.trans e4)
  have ki5 : G5 l2 = some (.tup ys) := by rw [← hG]; exact (ButL.put (as := [a]) (by simp)) _ _ upd_same (by simpa using n_ki)
  clear hG
  refine ⟨_, rfl, a, _, dx, _, rfl, e5, (T.cls hC), (T.na hC mf_taken), (by show 5 < 1000; decide), ?_⟩
  generalize hG : upd G5 a (.ins C dx (putF "taken" (.int 0) ([(("words" : Str), (.ref wa)), (("start" : Str), (.int b)), (("places" : Str), (.ref pl)), (("traps" : Str), (.ref l1)), (("inputs" : Str), (.ref l2))] : List (Str × V)))) = G6
  have e6 : G6 a = some (.ins C dx ([(("words" : Str), (.ref wa)), (("start" : Str), (.int b)), (("places" : Str), (.ref pl)), (("traps" : Str), (.ref l1)), (("inputs" : Str), (.ref l2)), (("taken" : Str), (.int 0))] : List (Str × V))) := by rw [← hG]; exact upd_same
  have b6 : ButL [a] H G6 := by rw [← hG]; exact ButL.fld b5
  have im6 := im.but b6 ha
  have kt6 : G6 l1 = some (.dK (mergeK [] kvs)) := by rw [← hG]; exact (ButL.put (as := [a]) (by simp)) _ _ kt5 (by simpa using n_kt)
  have ki6 : G6 l2 = some (.tup ys) := by rw [← hG]; exact (ButL.put (as := [a]) (by simp)) _ _ ki5 (by simpa using n_ki)
  clear hG
  refine ⟨_, rfl, fun mx md hx hd nd => ?_⟩
  refine ⟨_, _, rfl, mx, md, p, wa, da, pl, tr, ws, ds, ps, stk, b, rfl, rfl, k0, k1, upd_same, ((im6.same (same_new hd)).same (same_new (own_none hx nd))), fun Hm mm bm kmem kdm ksm nds frd frs q1 q2 q3 q4 => ⟨rfl, ?_⟩⟩
  have sm := new_obj hx hd nd bm
  have su := same2 (o1 := .own mx) (o2 := .ins (CE K) md []) hx hd nd
  have em := sm _ _ e6
  have n_kme : mx ≠ a := (ne_of_none e6 hx).symm
  have n_kd : mm.da ≠ a := (ne_of_none (su _ _ e6) frd).symm
  have n_ks : mm.sa ≠ a := (ne_of_none (su _ _ e6) frs).symm
  have frd0 : H mm.da = none := by
    cases e : H mm.da with
    | none => rfl
    | some o =>
      have z1 := su _ _ (b6 _ _ e (by simpa using n_kd))
      rw [z1] at frd
      cases frd
  have frs0 : H mm.sa = none := by
    cases e : H mm.sa with
    | none => rfl
    | some o =>
      have z1 := su _ _ (b6 _ _ e (by simpa using n_ks))
      rw [z1] at frs
      cases frs
  have bb := ButL.trans b6 (ButL.same (as := [a]) sm)
  have imm := im6.same sm
  have ktm := sm _ _ kt6
  have kim := sm _ _ ki6
  refine ⟨_, rfl, a, _, dx, _, rfl, em, (T.cls hC), (T.na hC mf_memory), (by show 6 < 1000; decide), ?_⟩
  generalize hG : upd Hm a (.ins C dx (putF "memory" (.ref mx) ([(("words" : Str), (.ref wa)), (("start" : Str), (.int b)), (("places" : Str), (.ref pl)), (("traps" : Str), (.ref l1)), (("inputs" : Str), (.ref l2)), (("taken" : Str), (.int 0))] : List (Str × V)))) = G7
  have e7 : G7 a = some (.ins C dx ([(("words" : Str), (.ref wa)), (("start" : Str), (.int b)), (("places" : Str), (.ref pl)), (("traps" : Str), (.ref l1)), (("inputs" : Str), (.ref l2)), (("taken" : Str), (.int 0)), (("memory" : Str), (.ref mx))] : List (Str × V))) := by rw [← hG]; exact upd_same
  have b7 : ButL [a] H G7 := by rw [← hG]; exact ButL.fld bb
  have im7 := im.but b7 ha
  have kt7 : G7 l1 = some (.dK (mergeK [] kvs)) := by rw [← hG]; exact (ButL.put (as := [a]) (by simp)) _ _ ktm (by simpa using n_kt)
  have ki7 : G7 l2 = some (.tup ys) := by rw [← hG]; exact (ButL.put (as := [a]) (by simp)) _ _ kim (by simpa using n_ki)
  have kme7 : G7 mx = some (.ins (CE K) md (mmF mm)) := by rw [← hG]; exact (ButL.put (as := [a]) (by simp)) _ _ kmem (by simpa using n_kme)
  have kd7 : G7 mm.da = some (.lst ds) := by rw [← hG]; exact (ButL.put (as := [a]) (by simp)) _ _ kdm (by simpa using n_kd)
  have ks7 : G7 mm.sa = some (.lst (List.replicate ((stk + 4 - 1) / 4 : Int).toNat [V.int 0]).flatten) := by rw [← hG]; exact (ButL.put (as := [a]) (by simp)) _ _ ksm (by simpa using n_ks)
  clear hG
  refine ⟨_, rfl, ?_⟩
  refine ⟨_, rfl, a, _, dx, _, rfl, e7, (T.cls hC), (T.na hC mf_pc), (by show 7 < 1000; decide), ?_⟩
  generalize hG : upd G7 a (.ins C dx (putF "pc" (.int b) ([(("words" : Str), (.ref wa)), (("start" : Str), (.int b)), (("places" : Str), (.ref pl)), (("traps" : Str), (.ref l1)), (("inputs" : Str), (.ref l2)), (("taken" : Str), (.int 0)), (("memory" : Str), (.ref mx))] : List (Str × V)))) = G8
  have e8 : G8 a = some (.ins C dx ([(("words" : Str), (.ref wa)), (("start" : Str), (.int b)), (("places" : Str), (.ref pl)), (("traps" : Str), (.ref l1)), (("inputs" : Str), (.ref l2)), (("taken" : Str), (.int 0)), (("memory" : Str), (.ref mx)), (("pc" : Str), (.int b))] : List (Str × V))) := by rw [← hG]; exact upd_same
  have b8 : ButL [a] H G8 := by rw [← hG]; exact ButL.fld b7
  have im8 := im.but b8 ha
  have kt8 : G8 l1 = some (.dK (mergeK [] kvs)) := by rw [← hG]; exact (ButL.put (as := [a]) (by simp)) _ _ kt7 (by simpa using n_kt)
  have ki8 : G8 l2 = some (.tup ys) := by rw [← hG]; exact (ButL.put (as := [a]) (by simp)) _ _ ki7 (by simpa using n_ki)
  have kme8 : G8 mx = some (.ins (CE K) md (mmF mm)) := by rw [← hG]; exact (ButL.put (as := [a]) (by simp)) _ _ kme7 (by simpa using n_kme)
  have kd8 : G8 mm.da = some (.lst ds) := by rw [← hG]; exact (ButL.put (as := [a]) (by simp)) _ _ kd7 (by simpa using n_kd)
  have ks8 : G8 mm.sa = some (.lst (List.replicate ((stk + 4 - 1) / 4 : Int).toNat [V.int 0]).flatten) := by rw [← hG]; exact (ButL.put (as := [a]) (by simp)) _ _ ks7 (by simpa using n_ks)
  clear hG
  refine ⟨_, rfl, ?_⟩
  refine ⟨_, rfl, a, _, dx, _, rfl, e8, (T.cls hC), (T.na hC mf_next_pc), (by show 8 < 1000; decide), ?_⟩
  generalize hG : upd G8 a (.ins C dx (putF "next_pc" (.int b) ([(("words" : Str), (.ref wa)), (("start" : Str), (.int b)), (("places" : Str), (.ref pl)), (("traps" : Str), (.ref l1)), (("inputs" : Str), (.ref l2)), (("taken" : Str), (.int 0)), (("memory" : Str), (.ref mx)), (("pc" : Str), (.int b))] : List (Str × V)))) = G9
  have e9 : G9 a = some (.ins C dx ([(("words" : Str), (.ref wa)), (("start" : Str), (.int b)), (("places" : Str), (.ref pl)), (("traps" : Str), (.ref l1)), (("inputs" : Str), (.ref l2)), (("taken" : Str), (.int 0)), (("memory" : Str), (.ref mx)), (("pc" : Str), (.int b)), (("next_pc" : Str), (.int b))] : List (Str × V))) := by rw [← hG]; exact upd_same
  have b9 : ButL [a] H G9 := by rw [← hG]; exact ButL.fld b8
  have im9 := im.but b9 ha
  have kt9 : G9 l1 = some (.dK (mergeK [] kvs)) := by rw [← hG]; exact (ButL.put (as := [a]) (by simp)) _ _ kt8 (by simpa using n_kt)
  have ki9 : G9 l2 = some (.tup ys) := by rw [← hG]; exact (ButL.put (as := [a]) (by simp)) _ _ ki8 (by simpa using n_ki)
  have kme9 : G9 mx = some (.ins (CE K) md (mmF mm)) := by rw [← hG]; exact (ButL.put (as := [a]) (by simp)) _ _ kme8 (by simpa using n_kme)
  have kd9 : G9 mm.da = some (.lst ds) := by rw [← hG]; exact (ButL.put (as := [a]) (by simp)) _ _ kd8 (by simpa using n_kd)
  have ks9 : G9 mm.sa = some (.lst (List.replicate ((stk + 4 - 1) / 4 : Int).toNat [V.int 0]).flatten) := by rw [← hG]; exact (ButL.put (as := [a]) (by simp)) _ _ ks8 (by simpa using n_ks)
  clear hG
  refine ⟨(by show 1 ≤ sizeLine; decide), fun l3 h3 => ?_⟩
  refine ⟨l3, _, [.int 0], rfl, rfl, upd_same, (by decide), (by decide), (by show 32 ≤ sizeLine; decide), fun l4 h4 => ?_⟩
  have fr4 : H l4 = none := by
    cases e : H l4 with
    | none => rfl
    | some o =>
      have n4 : l4 ≠ a := fun z => by
        rw [z] at h4
        rw [same_new (o := .lst [V.int 0]) h3 _ _ e9] at h4
        cases h4
      have z1 := same_new (o := .lst [V.int 0]) h3 _ _ (b9 _ _ e (by simpa using n4))
      rw [z1] at h4
      cases h4
  have n_dr : mm.da ≠ l4 := fun z => by rw [← z] at h4; rw [same_new (o := .lst [V.int 0]) h3 _ _ kd9] at h4; cases h4
  have n_sr : mm.sa ≠ l4 := fun z => by rw [← z] at h4; rw [same_new (o := .lst [V.int 0]) h3 _ _ ks9] at h4; cases h4
  refine ⟨_, rfl, a, _, dx, _, rfl, (same_new h4 _ _ (same_new h3 _ _ e9)), (T.cls hC), (T.na hC mf_registers), (by show 9 < 1000; decide), ?_⟩
  generalize hG : upd (upd (upd G9 l3 (.lst [.int 0])) l4 (.lst (List.replicate (32 : Int).toNat [V.int 0]).flatten)) a (.ins C dx (putF "registers" (.ref l4) ([(("words" : Str), (.ref wa)), (("start" : Str), (.int b)), (("places" : Str), (.ref pl)), (("traps" : Str), (.ref l1)), (("inputs" : Str), (.ref l2)), (("taken" : Str), (.int 0)), (("memory" : Str), (.ref mx)), (("pc" : Str), (.int b)), (("next_pc" : Str), (.int b))] : List (Str × V)))) = G10
  have e10 : G10 a = some (.ins C dx ([(("words" : Str), (.ref wa)), (("start" : Str), (.int b)), (("places" : Str), (.ref pl)), (("traps" : Str), (.ref l1)), (("inputs" : Str), (.ref l2)), (("taken" : Str), (.int 0)), (("memory" : Str), (.ref mx)), (("pc" : Str), (.int b)), (("next_pc" : Str), (.int b)), (("registers" : Str), (.ref l4))] : List (Str × V))) := by rw [← hG]; exact upd_same
  have b10 : ButL [a] H G10 := by rw [← hG]; exact ButL.fld (ButL.trans (ButL.trans b9 (ButL.same (same_new (o := (.lst [.int 0])) h3))) (ButL.same (same_new (o := (.lst (List.replicate (32 : Int).toNat [V.int 0]).flatten)) h4)))
  have im10 := im.but b10 ha
  have kt10 : G10 l1 = some (.dK (mergeK [] kvs)) := by rw [← hG]; exact (ButL.put (as := [a]) (by simp)) _ _ (same_new h4 _ _ (same_new h3 _ _ kt9)) (by simpa using n_kt)
  have ki10 : G10 l2 = some (.tup ys) := by rw [← hG]; exact (ButL.put (as := [a]) (by simp)) _ _ (same_new h4 _ _ (same_new h3 _ _ ki9)) (by simpa using n_ki)
  have kme10 : G10 mx = some (.ins (CE K) md (mmF mm)) := by rw [← hG]; exact (ButL.put (as := [a]) (by simp)) _ _ (same_new h4 _ _ (same_new h3 _ _ kme9)) (by simpa using n_kme)
  have kd10 : G10 mm.da = some (.lst ds) := by rw [← hG]; exact (ButL.put (as := [a]) (by simp)) _ _ (same_new h4 _ _ (same_new h3 _ _ kd9)) (by simpa using n_kd)
  have ks10 : G10 mm.sa = some (.lst (List.replicate ((stk + 4 - 1) / 4 : Int).toNat [V.int 0]).flatten) := by rw [← hG]; exact (ButL.put (as := [a]) (by simp)) _ _ (same_new h4 _ _ (same_new h3 _ _ ks9)) (by simpa using n_ks)
  have n_kr : l4 ≠ a := fun z => by rw [z] at h4; cases (show _ = _ from h4.symm.trans (same_new h3 _ _ e9))
  have kr10 : G10 l4 = some (.lst (List.replicate (32 : Int).toNat [V.int 0]).flatten) := by rw [← hG]; exact (ButL.put (as := [a]) (by simp)) _ _ upd_same (by simpa using n_kr)
  clear hG
  refine ⟨(by show 0 ≤ sizeLine; decide), fun l5 h5 => ?_⟩
  have fr5 : H l5 = none := by
    cases e : H l5 with
    | none => rfl
    | some o =>
      have n5 : l5 ≠ a := fun z => by
        rw [z] at h5
        rw [e10] at h5
        cases h5
      have z1 := b10 _ _ e (by simpa using n5)
      rw [z1] at h5
      cases h5
  have n_ro : l5 ≠ l4 := fun z => by rw [z] at h5; rw [kr10] at h5; cases h5
  refine ⟨_, rfl, a, _, dx, _, rfl, (same_new h5 _ _ e10), (T.cls hC), (T.na hC mf_outputs), (by show 10 < 1000; decide), ?_⟩
  generalize hG : upd (upd G10 l5 (.lst [])) a (.ins C dx (putF "outputs" (.ref l5) ([(("words" : Str), (.ref wa)), (("start" : Str), (.int b)), (("places" : Str), (.ref pl)), (("traps" : Str), (.ref l1)), (("inputs" : Str), (.ref l2)), (("taken" : Str), (.int 0)), (("memory" : Str), (.ref mx)), (("pc" : Str), (.int b)), (("next_pc" : Str), (.int b)), (("registers" : Str), (.ref l4))] : List (Str × V)))) = G11
  have e11 : G11 a = some (.ins C dx ([(("words" : Str), (.ref wa)), (("start" : Str), (.int b)), (("places" : Str), (.ref pl)), (("traps" : Str), (.ref l1)), (("inputs" : Str), (.ref l2)), (("taken" : Str), (.int 0)), (("memory" : Str), (.ref mx)), (("pc" : Str), (.int b)), (("next_pc" : Str), (.int b)), (("registers" : Str), (.ref l4)), (("outputs" : Str), (.ref l5))] : List (Str × V))) := by rw [← hG]; exact upd_same
  have b11 : ButL [a] H G11 := by rw [← hG]; exact ButL.fld (ButL.trans b10 (ButL.same (same_new (o := (.lst [])) h5)))
  have im11 := im.but b11 ha
  have kt11 : G11 l1 = some (.dK (mergeK [] kvs)) := by rw [← hG]; exact (ButL.put (as := [a]) (by simp)) _ _ (same_new h5 _ _ kt10) (by simpa using n_kt)
  have ki11 : G11 l2 = some (.tup ys) := by rw [← hG]; exact (ButL.put (as := [a]) (by simp)) _ _ (same_new h5 _ _ ki10) (by simpa using n_ki)
  have kme11 : G11 mx = some (.ins (CE K) md (mmF mm)) := by rw [← hG]; exact (ButL.put (as := [a]) (by simp)) _ _ (same_new h5 _ _ kme10) (by simpa using n_kme)
  have kd11 : G11 mm.da = some (.lst ds) := by rw [← hG]; exact (ButL.put (as := [a]) (by simp)) _ _ (same_new h5 _ _ kd10) (by simpa using n_kd)
  have ks11 : G11 mm.sa = some (.lst (List.replicate ((stk + 4 - 1) / 4 : Int).toNat [V.int 0]).flatten) := by rw [← hG]; exact (ButL.put (as := [a]) (by simp)) _ _ (same_new h5 _ _ ks10) (by simpa using n_ks)
  have kr11 : G11 l4 = some (.lst (List.replicate (32 : Int).toNat [V.int 0]).flatten) := by rw [← hG]; exact (ButL.put (as := [a]) (by simp)) _ _ (same_new h5 _ _ kr10) (by simpa using n_kr)
  have n_ko : l5 ≠ a := fun z => by rw [z] at h5; cases (show _ = _ from h5.symm.trans e10)
  have ko11 : G11 l5 = some (.lst []) := by rw [← hG]; exact (ButL.put (as := [a]) (by simp)) _ _ upd_same (by simpa using n_ko)
  clear hG
  refine ⟨_, rfl, a, _, dx, _, rfl, e11, (T.cls hC), (T.na hC mf_steps), (by show 11 < 1000; decide), ?_⟩
  generalize hG : upd G11 a (.ins C dx (putF "steps" (.int 0) ([(("words" : Str), (.ref wa)), (("start" : Str), (.int b)), (("places" : Str), (.ref pl)), (("traps" : Str), (.ref l1)), (("inputs" : Str), (.ref l2)), (("taken" : Str), (.int 0)), (("memory" : Str), (.ref mx)), (("pc" : Str), (.int b)), (("next_pc" : Str), (.int b)), (("registers" : Str), (.ref l4)), (("outputs" : Str), (.ref l5))] : List (Str × V)))) = G12
  have e12 : G12 a = some (.ins C dx ([(("words" : Str), (.ref wa)), (("start" : Str), (.int b)), (("places" : Str), (.ref pl)), (("traps" : Str), (.ref l1)), (("inputs" : Str), (.ref l2)), (("taken" : Str), (.int 0)), (("memory" : Str), (.ref mx)), (("pc" : Str), (.int b)), (("next_pc" : Str), (.int b)), (("registers" : Str), (.ref l4)), (("outputs" : Str), (.ref l5)), (("steps" : Str), (.int 0))] : List (Str × V))) := by rw [← hG]; exact upd_same
  have b12 : ButL [a] H G12 := by rw [← hG]; exact ButL.fld b11
  have im12 := im.but b12 ha
  have kt12 : G12 l1 = some (.dK (mergeK [] kvs)) := by rw [← hG]; exact (ButL.put (as := [a]) (by simp)) _ _ kt11 (by simpa using n_kt)
  have ki12 : G12 l2 = some (.tup ys) := by rw [← hG]; exact (ButL.put (as := [a]) (by simp)) _ _ ki11 (by simpa using n_ki)
  have kme12 : G12 mx = some (.ins (CE K) md (mmF mm)) := by rw [← hG]; exact (ButL.put (as := [a]) (by simp)) _ _ kme11 (by simpa using n_kme)
  have kd12 : G12 mm.da = some (.lst ds) := by rw [← hG]; exact (ButL.put (as := [a]) (by simp)) _ _ kd11 (by simpa using n_kd)
  have ks12 : G12 mm.sa = some (.lst (List.replicate ((stk + 4 - 1) / 4 : Int).toNat [V.int 0]).flatten) := by rw [← hG]; exact (ButL.put (as := [a]) (by simp)) _ _ ks11 (by simpa using n_ks)
  have kr12 : G12 l4 = some (.lst (List.replicate (32 : Int).toNat [V.int 0]).flatten) := by rw [← hG]; exact (ButL.put (as := [a]) (by simp)) _ _ kr11 (by simpa using n_kr)
  have ko12 : G12 l5 = some (.lst []) := by rw [← hG]; exact (ButL.put (as := [a]) (by simp)) _ _ ko11 (by simpa using n_ko)
  clear hG
  refine ⟨_, rfl, a, _, dx, _, rfl, e12, (T.cls hC), (T.na hC mf_ended), (by show 12 < 1000; decide), ?_⟩
  generalize hG : upd G12 a (.ins C dx (putF "ended" .non ([(("words" : Str), (.ref wa)), (("start" : Str), (.int b)), (("places" : Str), (.ref pl)), (("traps" : Str), (.ref l1)), (("inputs" : Str), (.ref l2)), (("taken" : Str), (.int 0)), (("memory" : Str), (.ref mx)), (("pc" : Str), (.int b)), (("next_pc" : Str), (.int b)), (("registers" : Str), (.ref l4)), (("outputs" : Str), (.ref l5)), (("steps" : Str), (.int 0))] : List (Str × V)))) = G13
  have e13 : G13 a = some (.ins C dx ([(("words" : Str), (.ref wa)), (("start" : Str), (.int b)), (("places" : Str), (.ref pl)), (("traps" : Str), (.ref l1)), (("inputs" : Str), (.ref l2)), (("taken" : Str), (.int 0)), (("memory" : Str), (.ref mx)), (("pc" : Str), (.int b)), (("next_pc" : Str), (.int b)), (("registers" : Str), (.ref l4)), (("outputs" : Str), (.ref l5)), (("steps" : Str), (.int 0)), (("ended" : Str), .non)] : List (Str × V))) := by rw [← hG]; exact upd_same
  have b13 : ButL [a] H G13 := by rw [← hG]; exact ButL.fld b12
  have im13 := im.but b13 ha
  have kt13 : G13 l1 = some (.dK (mergeK [] kvs)) := by rw [← hG]; exact (ButL.put (as := [a]) (by simp)) _ _ kt12 (by simpa using n_kt)
  have ki13 : G13 l2 = some (.tup ys) := by rw [← hG]; exact (ButL.put (as := [a]) (by simp)) _ _ ki12 (by simpa using n_ki)
  have kme13 : G13 mx = some (.ins (CE K) md (mmF mm)) := by rw [← hG]; exact (ButL.put (as := [a]) (by simp)) _ _ kme12 (by simpa using n_kme)
  have kd13 : G13 mm.da = some (.lst ds) := by rw [← hG]; exact (ButL.put (as := [a]) (by simp)) _ _ kd12 (by simpa using n_kd)
  have ks13 : G13 mm.sa = some (.lst (List.replicate ((stk + 4 - 1) / 4 : Int).toNat [V.int 0]).flatten) := by rw [← hG]; exact (ButL.put (as := [a]) (by simp)) _ _ ks12 (by simpa using n_ks)
  have kr13 : G13 l4 = some (.lst (List.replicate (32 : Int).toNat [V.int 0]).flatten) := by rw [← hG]; exact (ButL.put (as := [a]) (by simp)) _ _ kr12 (by simpa using n_kr)
  have ko13 : G13 l5 = some (.lst []) := by rw [← hG]; exact (ButL.put (as := [a]) (by simp)) _ _ ko12 (by simpa using n_ko)
  clear hG
  exact h G13 ⟨wa, pl, l1, l2, mx, l4, l5, b, 0, b, b, 0, .non, []⟩ mm b13 e13 ⟨rfl, rfl, rfl, rfl, rfl, rfl, rfl, rfl, kr13, n_kr, ⟨md, kme13⟩, n_kme, kd13, ks13, nds, n_dr, n_sr, q1, q2, q3, q4⟩ rfl fr4 frd0 frs0
end
end K82

namespace K82
open PySem PyProof.Rows L2 My Ru I6
open Builtin (bitAnd bitOr)
theorem pf_ins {m : Mc} (h : m.xs = []) (v : V) : putF "instructions" v (mfs m) = mfs { m with xs := [(("instructions" : Str), v)] } := by
  unfold mfs
  rw [h]
  rfl
theorem NewM.but {K : PySem.W.Frag} {H H' : Hp} {a wa C dx : Addr} {nw : Nat} {ds : List V} {stk b : Int} {m m' : Mc} {mm : Mm} {fs : List (Str × V)} (n : NewM K H a wa nw ds stk b m mm) (bt : ButL [a] H H') (e : H a = some (.ins C dx fs)) (hm : m' = { m with xs := m'.xs }) : NewM K H' a wa nw ds stk b m' mm := by
  obtain ⟨h1, h2, h3, h4, h5, h6, h7, h8, h9, h10, ⟨dm, h11⟩, h12, h13, h14, h15, h16, h17, h18, h19, h20, h21⟩ := n
  rw [hm]
  exact ⟨h1, h2, h3, h4, h5, h6, h7, h8, bt _ _ h9 (by simpa using h10), h10, ⟨dm, bt _ _ h11 (by simpa using h12)⟩, h12, bt _ _ h13 (by simpa using ne_of h13 e (fun z => by cases z)), bt _ _ h14 (by simpa using ne_of h14 e (fun z => by cases z)), h15, h16, h17, h18, h19, h20, h21⟩
theorem NewM.same {K : PySem.W.Frag} {H H' : Hp} {a wa : Addr} {nw : Nat} {ds : List V} {stk b : Int} {m : Mc} {mm : Mm} (n : NewM K H a wa nw ds stk b m mm) (s : Same H H') : NewM K H' a wa nw ds stk b m mm := by
  obtain ⟨h1, h2, h3, h4, h5, h6, h7, h8, h9, h10, ⟨dm, h11⟩, h12, h13, h14, h15, h16, h17, h18, h19, h20, h21⟩ := n
  exact ⟨h1, h2, h3, h4, h5, h6, h7, h8, s _ _ h9, h10, ⟨dm, s _ _ h11⟩, h12, s _ _ h13, s _ _ h14, h15, h16, h17, h18, h19, h20, h21⟩
def crX (H' : Hp) (m : Mc) (mm : Mm) (ws : List Int) : Prop := ∃ (l : Addr) (vs : List V), m.xs = [(("instructions" : Str), V.ref l)] ∧ H' l = some (.lst vs) ∧ l ≠ m.rg ∧ l ≠ mm.da ∧ l ≠ mm.sa ∧ InsL H' ws ws.length vs
def sp_ReadyMachine___init__ (K : PySem.W.Frag) : Sp := spInit K (fun C => C = CR K) crX
theorem InsL.step {H H5 : Hp} {ws : List Int} {i : Nat} {vs : List V} {y : V} (h : InsL H ws i vs) (keep : ∀ p xs, H p = some (.tup xs) → H5 p = some (.tup xs)) (hy : ∀ w, ws[i]? = some w → (decM w = none → y = .non) ∧ ∀ o, decM w = some o → ∃ p : Addr, y = .ref p ∧ H5 p = some (.tup (insV o (rd (fo o) w)))) : InsL H5 ws (i + 1) (vs ++ [y]) := by
  obtain ⟨hl, hg⟩ := h
  refine ⟨by rw [List.length_append, hl]; rfl, fun j hj w e1 => ?_⟩
  by_cases c : j < i
  · have q := hg j c w e1
    have e3 : (vs ++ [y])[j]? = vs[j]? := List.getElem?_append_left (by omega)
    rw [e3]
    refine ⟨q.1, fun o ho => ?_⟩
    obtain ⟨p, z1, z2⟩ := q.2 o ho
    exact ⟨p, z1, keep _ _ z2⟩
  · obtain rfl : j = i := by omega
    have q := hy w e1
    have e3 : (vs ++ [y])[j]? = some y := by rw [List.getElem?_append_right (by omega), hl, Nat.sub_self]; rfl
    rw [e3]
    refine ⟨fun z => by rw [q.1 z], fun o ho => ?_⟩
    obtain ⟨p, z1, z2⟩ := q.2 o ho
    exact ⟨p, by rw [z1], z2⟩
theorem flat_zero : ∀ n : Nat, (List.replicate n [V.int 0]).flatten = (List.replicate n (0 : Int)).map V.int
  | 0 => rfl
  | n + 1 => by
    show [V.int 0] ++ (List.replicate n [V.int 0]).flatten = V.int 0 :: (List.replicate n (0 : Int)).map V.int
    rw [flat_zero n]; rfl
def s0P (b : Int) (dat : List Int) (stk : Int) : PS := ⟨b, b, regs0, 0, none, dat, List.replicate ((stk + 4 - 1) / 4).toNat 0⟩
theorem NewM.ms {K : PySem.W.Frag} {H : Hp} {a p wa da pl tr C dx : Addr} {dat : List Int} {stk : Int} {c : Cfg} {ps : List V} {m : Mc} {mm : Mm} (n : NewM K H a wa c.ws.length (dat.map V.int) stk c.b m mm) (hC : C = CM K ∨ C = CR K) (e : H a = some (.ins C dx (mfs m))) (x : xsOk m.xs) (im : ImAt K H p wa da pl tr c.ws (dat.map V.int) ps stk c.b) (cr : C = CR K → crX H m mm c.ws) : MS K H a C dx m mm c (s0P c.b dat stk) := by
  have z := n.sa_
  unfold zerosV at z
  rw [flat_zero] at z
  exact ⟨⟨e, hC, n.rg_, List.length_replicate, n.ne_, x⟩, n.pc_, n.nx_, n.sp_, .inl ⟨rfl, n.en_⟩, n.me_, n.nme_, n.da_, z, n.dr_, n.sr_, n.ds_, by rw [n.wa_]; exact im.w, n.st_, cr⟩
theorem NewM.okM {K : PySem.W.Frag} {H : Hp} {a wa : Addr} {nw : Nat} {dat : List Int} {stk b : Int} {m : Mc} {mm : Mm} (n : NewM K H a wa nw (dat.map V.int) stk b m mm) (h0 : 0 ≤ stk) (h4 : stk % 4 = 0) (h1 : stk ≤ 1000) (hd : dat.length ≤ 1000) : OkM mm (s0P b dat stk) := by
  have q1 := n.q1_; have q2 := n.q2_; have q3 := n.q3_; have q4 := n.q4_
  rw [List.length_map] at q2 q3
  unfold bh at q1 q3
  refine ⟨by omega, by omega, q2, ?_, hd, ?_⟩
  · show mm.se = mm.ss + 4 * ((List.replicate ((stk + 4 - 1) / 4).toNat (0 : Int)).length : Int)
    rw [List.length_replicate]; omega
  · show (List.replicate ((stk + 4 - 1) / 4).toNat (0 : Int)).length ≤ 1000
    rw [List.length_replicate]; omega
section
variable {P : Program} {w : World} {K : PySem.W.Frag} {mg : Str → Option Value} {base : Heap}
theorem sc_ReadyMachine___init__ : FnScope ["self", "image", "inputs", "word"] ["self", "image", "inputs"] (defScope s_ReadyMachine___init__) := ⟨rfl, rfl, rfl, by decide +kernel, rfl, by decide +kernel, by decide +kernel⟩
theorem g_ReadyMachine___init__ (T : Txt K mg w) (G_Processor___init__ : Gm P w K mg base CX0 6 (He.ga K "Processor") "__init__" ["self", "image", "inputs"] (sp_Processor___init__ K)) (G_decode : Gd P w K mg base CX0 3 "decode" ["word"] (sp_decode K)) : Gm P w K mg base CX0 7 (He.ga K "ReadyMachine") "__init__" ["self", "image", "inputs"] (sp_ReadyMachine___init__ K) := by
  have sc := sc_ReadyMachine___init__
  refine T.d_ReadyMachine___init__.ok sc len3 (fun _ _ _ _ _ _ us hl => match us, hl with | [_, _, _], _ => rfl) (fun f cdv A outer s H vs Q E hr h => ?_)
  obtain ⟨x0, x1, x2, rfl, h⟩ := h
  obtain ⟨a, C, dx, p, wa, da, pl, tr, l, ws, ds, ps, stk, b, kvs, ys, rfl, rfl, rfl, rfl, ha, hys, k0, k1, im, tra, hws, h⟩ := h
  refine ⟨_, (pss_cons (ps_expr (Mh.pe_cfun (pe_gref T.cl_Processor.g) T.cf_init G_Processor___init__ (hr.mono (by omega)) pass0 (pa_cons (pv 0) (pa_cons (pv 1) (pa_cons (pv 2) pa_nil)))))
      (pss_one (ps_fld (pv 0) (pe_lc (own := [("word", 3)]) (g := gName 3) (by rfl) sc.nd (pi_tup (pe_fld (pv 0) rfl)) (blkOk_by (own := [("word", 3)]) (N := ["self", "image", "inputs", "word"]) (sc := defScope s_ReadyMachine___init__) (by decide +kernel)) (fun _ _ _ _ _ => (pg_name (i := 3) sc.nd rfl (Or.inl rfl))) (fun _ _ _ _ _ => pts_nil) (fun _ _ _ _ _ => (pe_g G_decode (hr.mono (by omega)) pass0 (pa_cons (pv 3) pa_nil)))) rfl))), ?_⟩
  refine ⟨rfl, _, rfl, _, rfl, _, rfl, ?_⟩
  refine ⟨_, _, _, rfl, a, _, dx, p, wa, da, pl, tr, l, ws, ds, ps, stk, b, kvs, ys, rfl, rfl, rfl, Or.inr rfl, ha, hys, k0, k1, im, tra, hws, fun H1 m mm b1 e1 N hx hf1 hf2 hf3 => ?_⟩
  have hC : CR K = CM K ∨ CR K = CR K := Or.inr rfl
  have xo : xsOk m.xs := Or.inl hx
  have hw1 : SqT K H1 m.wa (ws.map V.int) := by rw [N.wa_]; exact SqT.but b1 ha im.w
  refine ⟨_, rfl, a, _, dx, _, _, rfl, e1, T.cls hC, T.na hC mf_words, lk_words m, m.wa, rfl, ⟨_, hw1⟩, fun D hD => ?_⟩
  refine lc_tup (K := K) (a := m.wa) (xs := ws.map V.int) (fun i H' => Same H1 H' ∧ ∃ vs, H' D = some (.lst vs) ∧ InsL H' ws i vs) ⟨same_new hD, [], upd_same, rfl, fun j hj => absurd hj (Nat.not_lt_zero _)⟩ (fun i H' _ p => SqT.same p.1 hw1) (fun i x H' hx p => ?_) (fun H' p => ?_)
  · obtain ⟨s1, vs, hvs, hin⟩ := p
    have hil : i < ws.length := by
      have := (List.getElem?_eq_some_iff.mp hx).1
      rw [List.length_map] at this
      exact this
    obtain ⟨w1, hw, rfl⟩ : ∃ w1, ws[i]? = some w1 ∧ x = V.int w1 := by
      rw [List.getElem?_map] at hx
      cases e : ws[i]? with
      | none => rw [e] at hx; cases hx
      | some o => rw [e] at hx; injection hx with hx; exact ⟨o, rfl, hx.symm⟩
    have hb := hws.1 w1 (List.mem_of_getElem? hw)
    have fit : vs.length < sizeLine := tup_lt (by have := hin.1; have := hws.2; omega)
    have late : ∀ (H8 : Hp) (y : V), Same H' H8 → (decM w1 = none → y = .non) → (∀ o, decM w1 = some o → ∃ p : Addr, y = .ref p ∧ H8 p = some (.tup (insV o (rd (fo o) w1)))) → Same H1 (upd H8 D (.lst (vs ++ [y]))) ∧ ∃ ys, upd H8 D (.lst (vs ++ [y])) D = some (.lst ys) ∧ InsL (upd H8 D (.lst (vs ++ [y]))) ws (i + 1) ys := by
      intro H8 y s8 hn hy
      refine ⟨fun x o e => ?_, _, upd_same, hin.step (fun q xs e => ?_) (fun w' e1 => ⟨fun e2 => ?_, fun o' e2 => ?_⟩)⟩
      · rw [upd_ne (ne_of_none e hD)]; exact s8 _ _ (s1 _ _ e)
      · rw [upd_ne (ne_of e hvs (fun z => by cases z))]; exact s8 _ _ e
      · rw [hw] at e1; cases e1
        exact hn e2
      · rw [hw] at e1; cases e1
        obtain ⟨q, z1, z2⟩ := hy o' e2
        exact ⟨q, z1, by rw [upd_ne (ne_of z2 (s8 _ _ hvs) (fun z => by cases z))]; exact z2⟩
    refine ⟨rfl, ?_⟩
    dsimp only [tYes]
    rw [if_pos rfl]
    refine ⟨_, rfl, _, rfl, w1, rfl, hb.1, hb.2, fun hno H8 s8 => ?_, fun o ho H8 q s8 hq => ?_⟩
    · exact ⟨vs, s8 _ _ hvs, fit, late H8 _ s8 (fun _ => rfl) (fun o z => by rw [hno] at z; cases z)⟩
    · exact ⟨vs, s8 _ _ hvs, fit, late H8 _ s8 (fun z => by rw [ho] at z; cases z) (fun o' z => by rw [ho] at z; cases z; exact ⟨q, rfl, hq⟩)⟩
  · obtain ⟨s1, vs, hvs, hin⟩ := p
    rw [List.length_map] at hin
    have e2 := s1 _ _ e1
    refine ⟨_, rfl, a, _, dx, _, rfl, e2, T.cls hC, T.na hC mf_instructions, mfs_len xo, ?_⟩
    rw [pf_ins hx]
    have nd : D ≠ a := ne_of hvs e2 (fun z => by cases z)
    have bt : ButL [a] H' (upd H' a (.ins (CR K) dx (mfs { m with xs := [(("instructions" : Str), V.ref D)] }))) := ButL.put (by simp)
    have dr : D ≠ m.rg := (ne_of_none N.rg_ hD).symm
    have dd1 : D ≠ mm.da := (ne_of_none N.da_ hD).symm
    have dd2 : D ≠ mm.sa := (ne_of_none N.sa_ hD).symm
    refine h _ { m with xs := [(("instructions" : Str), V.ref D)] } mm (ButL.trans b1 (ButL.trans (ButL.same s1) bt)) upd_same ?_ ⟨D, vs, rfl, by rw [upd_ne nd]; exact hvs, dr, dd1, dd2, hin.keep fun p xs z4 => bt _ _ z4 (by simpa using ne_of z4 e2 (fun z => by cases z))⟩ hf1 hf2 hf3
    exact NewM.but (m' := { m with xs := [(("instructions" : Str), V.ref D)] }) (NewM.same N s1) bt e2 rfl
end
end K82

namespace K82
open PySem PyProof.Rows L2 My Ru I6
open Builtin (bitAnd bitOr)
theorem dd_lt {o : Nat} (h : isDd o = true) : o < 48 := by
  unfold isDd at h
  rcases Bool.or_eq_true_iff.mp h with z | z
  · have := of_decide_eq_true (Bool.and_eq_true_iff.mp z).2; omega
  · have := of_decide_eq_true (Bool.and_eq_true_iff.mp z).2; omega
/-! the three kinds of programs, run as plain data -/
def wrd (c : Nat × Int × Int × Int) : Int := wordM c.1 c.2.1 c.2.2.1 c.2.2.2
structure CodeOk (c : Nat × Int × Int × Int) : Prop where
  rng : 0 ≤ wrd c ∧ wrd c < 4294967296
  dec : decM (wrd c) = some c.1
  red : rd (fo c.1) (wrd c) = c.2
  dd : isDd c.1 = true
  q : qOk c.1 c.2
theorem codeOk {o : Nat} {a b c : Int} (h : okI (fo o) a b c) (hd : isDd o = true) (q : qOk o (a, b, c)) : CodeOk (o, a, b, c) := by
  have ho : o < 48 := by exact dd_lt hd
  have B := written ho h
  exact ⟨B.rng, dec_word ho h, B.read, hd, q⟩
theorem passF {P : Program} {w : World} {X : Cx} : Passes (L2.CX P w) X (fun _ _ _ => False) := by
  rintro _ _ _ _ _ _ _ ⟨_, _, _, _, _, _, _, _, _, _, _, _, h⟩
  exact h.elim
theorem CodeOk.ins {cd : Nat × Int × Int × Int} (h : CodeOk cd) : insM (.str (nm cd.1)) (some cd.2.1) (some cd.2.2.1) (some cd.2.2.2) = some cd.1 := by
  obtain ⟨ho, T⟩ := dec_told h.rng h.dec
  have g := T.good
  rw [h.red] at g
  rw [ins_of (nm_pos _ ho), if_pos (ok_of g)]
theorem enc_go {K : PySem.W.Frag} {H : Hp} {Q : VK} {E : XK} {cd : Nat × Int × Int × Int} {t : Addr} (ok : CodeOk cd) (ht : H t = some (.tup (insV cd.1 cd.2))) (h : ∀ H', Same H H' → Q (.int (wrd cd)) H') : sp_encode K [.ref t] H Q E := by
  refine ⟨_, rfl, t, .str (nm cd.1), some cd.2.1, some cd.2.2.1, some cd.2.2.2, rfl, ht, Or.inr ⟨_, rfl⟩, fun o' h' H8 s8 => ?_, fun hno => by rw [ok.ins] at hno; cases hno⟩
  rw [ok.ins] at h'
  cases h'
  exact h H8 s8
theorem ok_row {o : Nat} {x y n : Int} (hd : isDd o = true) (hx : 0 ≤ x ∧ x < 32) (hy : 0 ≤ y ∧ y < 32) (hn : -2048 ≤ n ∧ n ≤ 2047) : CodeOk (o, x, y, n) := by
  refine codeOk ?_ hd ⟨hx.1, hx.2, Or.inr (by dsimp only; omega), by dsimp only; omega, by dsimp only; omega, by dsimp only; omega, by dsimp only; omega⟩
  have h : okI .number x y n := ⟨hx, hy, hn⟩
  have g : okI .store x y n := ⟨hx, hy, hn⟩
  have k : fo o = .number ∨ fo o = .store := by
    unfold isDd at hd
    rcases Bool.or_eq_true_iff.mp hd with z | z
    · have z1 := of_decide_eq_true (Bool.and_eq_true_iff.mp z).1
      have z2 := of_decide_eq_true (Bool.and_eq_true_iff.mp z).2
      have : o = 27 ∨ o = 28 ∨ o = 29 ∨ o = 30 ∨ o = 31 := by omega
      rcases this with rfl | rfl | rfl | rfl | rfl <;> exact .inl rfl
    · have z1 := of_decide_eq_true (Bool.and_eq_true_iff.mp z).1
      have z2 := of_decide_eq_true (Bool.and_eq_true_iff.mp z).2
      have : o = 33 ∨ o = 34 ∨ o = 35 := by omega
      rcases this with rfl | rfl | rfl <;> exact .inr rfl
  rcases k with k | k
  · rw [k]; exact h
  · rw [k]; exact g
structure ImOk (K : PySem.W.Frag) (H : Hp) (p : Addr) (cd : Nat × Int × Int × Int) (dat : List Int) (stk b : Int) : Prop where
  ex : ∃ wa da pl tr : Addr, ImAt K H p wa da pl tr [wrd cd, wrd cd, wrd cd] (dat.map V.int) [.non, .non, .non] stk b ∧ TrAt K H tr []
def sp__law_image (K : PySem.W.Frag) : Sp := sp4 fun x y z u H Q _ => ∃ (R W t : Addr) (cd : Nat × Int × Int × Int) (dat : List Int) (stk b : Int), x = .ref R ∧ y = .ref W ∧ z = .int stk ∧ u = .int b ∧ H R = some (.lst [.ref t, .ref t, .ref t]) ∧ H t = some (.tup (insV cd.1 cd.2)) ∧ CodeOk cd ∧ H W = some (.lst (dat.map V.int)) ∧
  ∀ (H' : Hp) (p : Addr), Same H H' → ImOk K H' p cd dat stk b → Q (.ref p) H'
section
variable {P : Program} {w : World} {K : PySem.W.Frag} {mg : Str → Option Value} {base : Heap}
theorem sc__law_image : FnScope ["rows", "words", "stack", "base", "row"] ["rows", "words", "stack", "base"] (defScope s__law_image) := ⟨rfl, rfl, rfl, by decide +kernel, rfl, by decide +kernel, by decide +kernel⟩
theorem g__law_image (T : Txt K mg w) (G_encode : Gd P w K mg base (L2.CX P w) 4 "encode" ["instruction"] (sp_encode K)) : Gd P w K mg base CX0 5 "_law_image" ["rows", "words", "stack", "base"] (sp__law_image K) := by
  have sc := sc__law_image
  refine T.d__law_image.ok sc len4 (fun _ _ _ _ _ _ us hl => match us, hl with | [_, _, _, _], _ => rfl) (fun f cdv A outer s H vs Q E hr h => ?_)
  obtain ⟨x0, x1, x2, x3, rfl, h⟩ := h
  obtain ⟨R, W, t, cd, dat, stk, b, rfl, rfl, rfl, rfl, hR, ht, ok, hW, h⟩ := h
  refine ⟨_, (pss_one (ps_ret (pe_tup (pa_cons (pe_callTy call_tuple_of (by rfl) T.n_tuple (by decide +kernel) (pa_cons (pe_lc (own := [("row", 4)]) (g := gName 4) (by rfl) sc.nd (pi_list (pv 0)) (blkOk_by (own := [("row", 4)]) (N := ["rows", "words", "stack", "base", "row"]) (sc := defScope s__law_image) (by decide +kernel)) (fun _ _ _ _ _ => (pg_name (i := 4) sc.nd rfl (Or.inl rfl))) (fun _ _ _ _ _ => pts_nil) (fun _ _ _ _ _ => (pe_g G_encode (hr.mono (by omega)) passF (pa_cons (pv 4) pa_nil)))) pa_nil)) (pa_cons (pe_callTy call_tuple_of (by rfl) T.n_tuple (by decide +kernel) (pa_cons (pv 1) pa_nil)) (pa_cons (pv 2) (pa_cons pe_int (pa_cons (pe_op Mt.op_timesN (pe_tup (pa_cons pe_non pa_nil)) (pe_callB call_len_seq (by rfl) T.n_len PySem.boot_len (pa_cons (pv 0) pa_nil))) (pa_cons (Mh.pe_tupF pa_nil) (pa_cons (pe_tup pa_nil) (pa_cons pe_int (pa_cons (pv 3) pa_nil)))))))))))), ?_⟩
  refine ⟨_, rfl, R, rfl, ⟨_, SqL.of hR⟩, fun D hD => ?_⟩
  refine lc_list (K := K) (a := R) (xs := [V.ref t, V.ref t, V.ref t]) (fun i H' => Same H H' ∧ H' D = some (.lst (([wrd cd, wrd cd, wrd cd].take i).map V.int))) ⟨same_new hD, upd_same⟩ (fun i H' _ p => SqL.of (p.1 _ _ hR)) (fun i x H' hx p => ?_) (fun H' p => ?_)
  · have hi : i < 3 := (List.getElem?_eq_some_iff.mp hx).1
    have hx2 : x = .ref t := by
      match i, hi, hx with
      | 0, _, hx => cases hx; rfl
      | 1, _, hx => cases hx; rfl
      | 2, _, hx => cases hx; rfl
    have hw : [wrd cd, wrd cd, wrd cd][i]? = some (wrd cd) := by
      match i, hi with
      | 0, _ => rfl
      | 1, _ => rfl
      | 2, _ => rfl
    subst hx2
    refine ⟨rfl, ?_⟩
    dsimp only [tYes]
    rw [if_pos rfl]
    refine ⟨_, rfl, enc_go ok (p.1 _ _ ht) fun H9 s9 => ?_⟩
    refine ⟨_, s9 _ _ p.2, (by rw [List.length_map, List.length_take]; exact tup_lt (by omega)), fun x o e => ?_, ?_⟩
    · rw [upd_ne (ne_of_none e hD)]; exact s9 _ _ (p.1 _ _ e)
    · rw [upd_same, List.take_add_one, hw, Option.toList_some, List.map_append]; rfl
  obtain ⟨s0, hDl⟩ := p
  replace hDl : H' D = some (.lst [.int (wrd cd), .int (wrd cd), .int (wrd cd)]) := hDl
  refine ⟨D, _, rfl, Or.inl ⟨SqL.of hDl, fun wa hwa => ?_⟩⟩
  have s1 := Same.tr s0 (same_new (o := .tup [.int (wrd cd), .int (wrd cd), .int (wrd cd)]) hwa)
  have ewa : upd H' wa (.tup [.int (wrd cd), .int (wrd cd), .int (wrd cd)]) wa = some (.tup [.int (wrd cd), .int (wrd cd), .int (wrd cd)]) := upd_same
  generalize upd H' wa (.tup [.int (wrd cd), .int (wrd cd), .int (wrd cd)]) = A1 at s1 ewa ⊢
  refine ⟨_, rfl, W, _, rfl, Or.inl ⟨SqL.of (s1 _ _ hW), fun da hda => ?_⟩⟩
  have q := same_new (o := .tup (dat.map V.int)) hda
  have s2 := Same.tr s1 q
  have ewa := q _ _ ewa
  have eda : upd A1 da (.tup (dat.map V.int)) da = some (.tup (dat.map V.int)) := upd_same
  generalize upd A1 da (.tup (dat.map V.int)) = A2 at s2 ewa eda ⊢
  refine ⟨_, rfl, (by show 1 ≤ sizeLine; decide), fun n1 hn1 => ?_⟩
  have q := same_new (o := .tup [.non]) hn1
  have s3 := Same.tr s2 q
  have ewa := q _ _ ewa
  have eda := q _ _ eda
  have en1 : upd A2 n1 (.tup [.non]) n1 = some (.tup [.non]) := upd_same
  generalize upd A2 n1 (.tup [.non]) = A3 at s3 ewa eda en1 ⊢
  refine ⟨_, rfl, R, _, rfl, Or.inl (SqL.of (s3 _ _ hR)), ?_⟩
  refine ⟨n1, 3, .non, rfl, rfl, en1, by decide, by decide, fun A4 pl q epl => ?_⟩
  have s4 := Same.tr s3 q
  have ewa := q _ _ ewa
  have eda := q _ _ eda
  refine ⟨(by show 0 ≤ sizeLine; decide), fun tr oT htr hoT => ?_⟩
  have q := same_new (o := .frz oT (.tup [])) htr
  have s5 := Same.tr s4 q
  have ewa := q _ _ ewa
  have eda := q _ _ eda
  have epl := q _ _ epl
  have etr : upd A4 tr (.frz oT (.tup [])) tr = some (.frz oT (.tup [])) := upd_same
  generalize upd A4 tr (.frz oT (.tup [])) = A5 at s5 ewa eda epl etr ⊢
  refine ⟨(by show 0 ≤ sizeLine; decide), fun u hu => ?_⟩
  have q := same_new (o := .tup []) hu
  have s6 := Same.tr s5 q
  have ewa := q _ _ ewa
  have eda := q _ _ eda
  have epl := q _ _ epl
  have etr := q _ _ etr
  generalize upd A5 u (.tup []) = A6 at s6 ewa eda epl etr ⊢
  refine ⟨_, rfl, (by show 9 ≤ sizeLine; decide), fun im him => ?_⟩
  have q := same_new (o := .tup [.ref wa, .ref da, .int stk, .int 1, .ref pl, .ref tr, .ref u, .int 8, .int b]) him
  exact h _ im (Same.tr s6 q) ⟨wa, da, pl, tr, ⟨⟨_, _, upd_same⟩, SqT.of (q _ _ ewa), SqT.of (q _ _ eda), SqT.of (q _ _ epl)⟩, ⟨oT, [], q _ _ etr, hoT, .nil⟩⟩
end
end K82

namespace K82
open PySem PyProof.Rows L2 My Ru I6
open Builtin (bitAnd bitOr)
/-! bytes of words -/
def byte (w i : Int) : Int := w / 2 ^ (8 * i).toNat % 256
theorem byte0 (w : Int) : byte w 0 = w % 256 := by
  show w / 2 ^ (8 * (0 : Int)).toNat % 256 = _
  rw [show ((8 * (0 : Int)).toNat) = 0 from rfl, show (2 : Int) ^ 0 = 1 from rfl, Int.ediv_one]
theorem byte1 (w : Int) : byte w 1 = w / 256 % 256 := by
  show w / 2 ^ (8 * (1 : Int)).toNat % 256 = _
  rw [show ((8 * (1 : Int)).toNat) = 8 from rfl, show (2 : Int) ^ 8 = 256 by decide]
theorem byte2 (w : Int) : byte w 2 = w / 65536 % 256 := by
  show w / 2 ^ (8 * (2 : Int)).toNat % 256 = _
  rw [show ((8 * (2 : Int)).toNat) = 16 from rfl, show (2 : Int) ^ 16 = 65536 by decide]
theorem byte3 (w : Int) : byte w 3 = w / 16777216 % 256 := by
  show w / 2 ^ (8 * (3 : Int)).toNat % 256 = _
  rw [show ((8 * (3 : Int)).toNat) = 24 from rfl, show (2 : Int) ^ 24 = 16777216 by decide]
/-- where a field of a word may lie -/
def shok (many j : Int) : Prop := (many = 1 ∧ (j = 0 ∨ j = 1 ∨ j = 2 ∨ j = 3)) ∨ (many = 2 ∧ (j = 0 ∨ j = 2)) ∨ (many = 4 ∧ j = 0)
theorem shok_of {many a : Int} (hm : many_ok many) (h : a % many = 0) : shok many (a % 4) := by
  rcases hm with rfl | rfl | rfl
  · exact .inl ⟨rfl, by omega⟩
  · exact .inr (.inl ⟨rfl, by omega⟩)
  · exact .inr (.inr ⟨rfl, by omega⟩)
theorem stW_eq {W r : Int} (many : Int) (m k : Nat) (M D : Int) (hM : (2 : Int) ^ m = M) (hD : (2 : Int) ^ k = D) (hm : many_ok many) (hg : grM many + 1 = M) (hk : (2 : Int) ^ k = D) (sh : Int) (hs : sh.toNat = k) (hM0 : 0 < M) (hD0 : 0 < D) (hz : ((W - W / D % M * D) / D) % M = 0) :
    stW many W r sh = W - W / D % M * D + r % M * D := by
  unfold stW
  rw [hs, bitAnd_not, B6.and_shift, gmask _ hm, gmask _ hm, hg, hD]
  exact B6.or_fieldL m k hM hD hz (Int.emod_nonneg _ (by omega)) (Int.emod_lt_of_pos _ hM0)
theorem st_all {W r many j : Int} (h : shok many j) (h0 : 0 ≤ W) (h1 : W < 4294967296) :
    (0 ≤ stW many W r (8 * j) ∧ stW many W r (8 * j) < 4294967296) ∧ ∀ i, i = 0 ∨ i = 1 ∨ i = 2 ∨ i = 3 → byte (stW many W r (8 * j)) i = if j ≤ i ∧ i < j + many then byte r (i - j) else byte W i := by
  rcases h with ⟨rfl, rfl | rfl | rfl | rfl⟩ | ⟨rfl, rfl | rfl⟩ | ⟨rfl, rfl⟩
  · rw [stW_eq 1 8 0 256 1 (by decide) (by decide) (.inl rfl) rfl (by decide) _ rfl (by decide) (by decide) (by omega)]
    refine ⟨by omega, fun i hi => ?_⟩
    rcases hi with rfl | rfl | rfl | rfl <;> simp (config := { decide := true }) only [if_true, if_false, byte0, byte1, byte2, byte3, Int.sub_self] <;> omega
  · rw [stW_eq 1 8 8 256 256 (by decide) (by decide) (.inl rfl) rfl (by decide) _ rfl (by decide) (by decide) (by omega)]
    refine ⟨by omega, fun i hi => ?_⟩
    rcases hi with rfl | rfl | rfl | rfl <;> simp (config := { decide := true }) only [if_true, if_false, byte0, byte1, byte2, byte3, Int.sub_self] <;> omega
  · rw [stW_eq 1 8 16 256 65536 (by decide) (by decide) (.inl rfl) rfl (by decide) _ rfl (by decide) (by decide) (by omega)]
    refine ⟨by omega, fun i hi => ?_⟩
    rcases hi with rfl | rfl | rfl | rfl <;> simp (config := { decide := true }) only [if_true, if_false, byte0, byte1, byte2, byte3, Int.sub_self] <;> omega
  · rw [stW_eq 1 8 24 256 16777216 (by decide) (by decide) (.inl rfl) rfl (by decide) _ rfl (by decide) (by decide) (by omega)]
    refine ⟨by omega, fun i hi => ?_⟩
    rcases hi with rfl | rfl | rfl | rfl <;> simp (config := { decide := true }) only [if_true, if_false, byte0, byte1, byte2, byte3, Int.sub_self] <;> omega
  · rw [stW_eq 2 16 0 65536 1 (by decide) (by decide) (.inr (.inl rfl)) rfl (by decide) _ rfl (by decide) (by decide) (by omega)]
    refine ⟨by omega, fun i hi => ?_⟩
    rcases hi with rfl | rfl | rfl | rfl <;> simp (config := { decide := true }) only [if_true, if_false, byte0, byte1, byte2, byte3, Int.sub_zero] <;> omega
  · rw [stW_eq 2 16 16 65536 65536 (by decide) (by decide) (.inr (.inl rfl)) rfl (by decide) _ rfl (by decide) (by decide) (by omega)]
    refine ⟨by omega, fun i hi => ?_⟩
    rcases hi with rfl | rfl | rfl | rfl
    · simp (config := { decide := true }) only [if_false, byte0]; omega
    · simp (config := { decide := true }) only [if_false, byte1]; omega
    · rw [if_pos (by decide), show (2 - 2 : Int) = 0 by decide, byte2, byte0]; omega
    · rw [if_pos (by decide), show (3 - 2 : Int) = 1 by decide, byte3, byte1]; omega
  · rw [stW_eq 4 32 0 4294967296 1 (by decide) (by decide) (.inr (.inr rfl)) rfl (by decide) _ rfl (by decide) (by decide) (by omega)]
    refine ⟨by omega, fun i hi => ?_⟩
    rcases hi with rfl | rfl | rfl | rfl <;> simp (config := { decide := true }) only [if_true, if_false, byte0, byte1, byte2, byte3, Int.sub_zero] <;> omega
theorem word_bytes {W : Int} (h0 : 0 ≤ W) (h1 : W < 4294967296) : W = byte W 0 + byte W 1 * 256 + byte W 2 * 65536 + byte W 3 * 16777216 := by
  rw [byte0, byte1, byte2, byte3]; omega
/-- a field as the sum of its bytes -/
def sumF (W j many : Int) : Int := if many = 1 then byte W j else if many = 2 then byte W j + byte W (j + 1) * 256 else byte W j + byte W (j + 1) * 256 + byte W (j + 2) * 65536 + byte W (j + 3) * 16777216
theorem ld_sum {W many j : Int} (h : shok many j) (h0 : 0 ≤ W) (h1 : W < 4294967296) : (W / 2 ^ (8 * j).toNat) % (grM many + 1) = sumF W j many := by
  rcases h with ⟨rfl, rfl | rfl | rfl | rfl⟩ | ⟨rfl, rfl | rfl⟩ | ⟨rfl, rfl⟩
  · rfl
  · rfl
  · rfl
  · rfl
  · show W / 2 ^ (8 * (0 : Int)).toNat % 65536 = byte W 0 + byte W (0 + 1) * 256
    rw [show ((8 * (0 : Int)).toNat) = 0 from rfl, show (2 : Int) ^ 0 = 1 from rfl, show (0 + 1 : Int) = 1 by decide, byte0, byte1]; omega
  · show W / 2 ^ (8 * (2 : Int)).toNat % 65536 = byte W 2 + byte W (2 + 1) * 256
    rw [show ((8 * (2 : Int)).toNat) = 16 from rfl, show (2 : Int) ^ 16 = 65536 by decide, show (2 + 1 : Int) = 3 by decide, byte2, byte3]; omega
  · show W / 2 ^ (8 * (0 : Int)).toNat % 4294967296 = byte W 0 + byte W (0 + 1) * 256 + byte W (0 + 2) * 65536 + byte W (0 + 3) * 16777216
    rw [show ((8 * (0 : Int)).toNat) = 0 from rfl, show (2 : Int) ^ 0 = 1 from rfl, show (0 + 1 : Int) = 1 by decide, show (0 + 2 : Int) = 2 by decide, show (0 + 3 : Int) = 3 by decide, byte0, byte1, byte2, byte3]; omega
end K82

namespace K82
open PySem PyProof.Rows L2 My Ru I6
open Builtin (bitAnd bitOr)
/-! the memory as bytes -/
def cellB (l : List Int) (off : Int) : Int := byte (l.getD (off / 4).toNat 0) (off % 4)
def memB (mm : Mm) (s : PS) (k : Int) : Option Int := if mm.ds ≤ k ∧ k < mm.de then some (cellB s.dat (k - mm.ds)) else if mm.ss ≤ k ∧ k < mm.se then some (cellB s.stk (k - mm.ss)) else none
structure OkW (mm : Mm) (s : PS) : Prop where
  ap : mm.de ≤ mm.ss
  d : ∀ w ∈ s.dat, 0 ≤ w ∧ w < 4294967296
  s : ∀ w ∈ s.stk, 0 ≤ w ∧ w < 4294967296
theorem getD_rng {l : List Int} (h : ∀ w ∈ l, 0 ≤ w ∧ w < 4294967296) (n : Nat) : 0 ≤ l.getD n 0 ∧ l.getD n 0 < 4294967296 := by
  rw [List.getD_eq_getElem?_getD]
  cases e : l[n]? with
  | none => exact ⟨Int.le_refl 0, by decide⟩
  | some w => exact h w (List.mem_of_getElem? e)
theorem plc_some {mm : Mm} {s : PS} {a many : Int} {b : Bool} {k : Int} (O : OkM mm s) (W : OkW mm s) (hm : many_ok many) (h : plc mm a many = some (b, k)) :
    a % many = 0 ∧ 0 ≤ k ∧ (∀ i, 0 ≤ i → i < many → memB mm s (a + i) = some (byte ((cells s b).getD k.toNat 0) (a % 4 + i))) ∧ (b = true → mm.ss ≤ a ∧ a + many ≤ mm.se ∧ k = (a - mm.ss) / 4) ∧ (b = false → mm.ds ≤ a ∧ a + many ≤ mm.de ∧ k = (a - mm.ds) / 4) := by
  have h1 := O.dl; have h2 := O.sl; have h3 := O.d0; have h4 := O.s0; have h5 := W.ap
  unfold plc at h
  split at h
  · rename_i z
    split at h
    · rename_i q
      injection h with h
      injection h with h6 h7
      subst h6 h7
      refine ⟨z, by omega, fun i i0 i1 => ?_, fun _ => ⟨q.1, q.2, rfl⟩, fun z => by cases z⟩
      unfold memB
      rw [if_neg (by omega), if_pos (by omega)]
      unfold cellB
      have e1 : (a + i - mm.ss) / 4 = (a - mm.ss) / 4 := by rcases hm with rfl | rfl | rfl <;> omega
      have e2 : (a + i - mm.ss) % 4 = a % 4 + i := by rcases hm with rfl | rfl | rfl <;> omega
      rw [e1, e2]; rfl
    · split at h
      · rename_i q
        injection h with h
        injection h with h6 h7
        subst h6 h7
        refine ⟨z, by omega, fun i i0 i1 => ?_, (fun z => by cases z), fun _ => ⟨q.1, q.2, rfl⟩⟩
        unfold memB
        rw [if_pos (by omega)]
        unfold cellB
        have e1 : (a + i - mm.ds) / 4 = (a - mm.ds) / 4 := by rcases hm with rfl | rfl | rfl <;> omega
        have e2 : (a + i - mm.ds) % 4 = a % 4 + i := by rcases hm with rfl | rfl | rfl <;> omega
        rw [e1, e2]; rfl
      · cases h
  · cases h
theorem plc_none {mm : Mm} {s : PS} {a many : Int} (O : OkM mm s) (W : OkW mm s) (hm : many_ok many) (h : plc mm a many = none) (ha : a % many = 0) : ∃ i, 0 ≤ i ∧ i < many ∧ memB mm s (a + i) = none := by
  have h1 := O.dl; have h2 := O.sl; have h3 := O.d0; have h4 := O.s0; have h5 := W.ap
  unfold plc at h
  rw [if_pos ha] at h
  split at h
  · cases h
  · rename_i q1
    split at h
    · cases h
    · rename_i q2
      by_cases c : memB mm s a = none
      · exact ⟨0, by decide, by rcases hm with rfl | rfl | rfl <;> decide, by rw [Int.add_zero]; exact c⟩
      · exfalso
        apply c
        unfold memB
        rw [if_neg (by rcases hm with rfl | rfl | rfl <;> omega), if_neg (by rcases hm with rfl | rfl | rfl <;> omega)]
/-- a word of the memory, by its bytes -/
theorem plc_word {mm : Mm} {s : PS} {a : Int} (O : OkM mm s) (W : OkW mm s) (ha : a % 4 = 0) (h : (memB mm s a).isSome = true) : ∃ (b : Bool) (k : Int) (b0 b1 b2 b3 : Int), plc mm a 4 = some (b, k) ∧ memB mm s a = some b0 ∧ memB mm s (a + 1) = some b1 ∧ memB mm s (a + 2) = some b2 ∧ memB mm s (a + 3) = some b3 ∧
    (cells s b).getD k.toNat 0 = b0 + b1 * 256 + b2 * 65536 + b3 * 16777216 := by
  cases e : plc mm a 4 with
  | none =>
    exfalso
    have h1 := O.dl; have h2 := O.sl; have h3 := O.d0; have h4 := O.s0
    unfold plc at e
    rw [if_pos ha] at e
    split at e
    · cases e
    · rename_i q1
      split at e
      · cases e
      · rename_i q2
        unfold memB at h
        rw [if_neg (by omega), if_neg (by omega)] at h
        cases h
  | some bk =>
    obtain ⟨b, k⟩ := bk
    have q := plc_some O W (.inr (.inr rfl)) e
    have m := q.2.2.1
    have hw : 0 ≤ (cells s b).getD k.toNat 0 ∧ (cells s b).getD k.toNat 0 < 4294967296 := by
      cases b with
      | true => exact getD_rng W.s _
      | false => exact getD_rng W.d _
    have m0 := m 0 (by decide) (by decide)
    rw [Int.add_zero, ha, show (0 + 0 : Int) = 0 by decide] at m0
    have m1 := m 1 (by decide) (by decide)
    have m2 := m 2 (by decide) (by decide)
    have m3 := m 3 (by decide) (by decide)
    rw [ha, show (0 + 1 : Int) = 1 by decide] at m1
    rw [ha, show (0 + 2 : Int) = 2 by decide] at m2
    rw [ha, show (0 + 3 : Int) = 3 by decide] at m3
    exact ⟨b, k, _, _, _, _, rfl, m0, m1, m2, m3, word_bytes hw.1 hw.2⟩
theorem cellB_set {l : List Int} {n : Nat} {v off : Int} (hn : n < l.length) (h0 : 0 ≤ off) : cellB (l.set n v) off = if (off / 4).toNat = n then byte v (off % 4) else cellB l off := by
  unfold cellB
  rw [List.getD_eq_getElem?_getD, List.getElem?_set]
  by_cases c : n = (off / 4).toNat
  · rw [if_pos c, if_pos hn, if_pos c.symm]; rfl
  · rw [if_neg c, if_neg (fun z => c z.symm), List.getD_eq_getElem?_getD]
theorem set_rng {l : List Int} {n : Nat} {v : Int} (h : ∀ w ∈ l, 0 ≤ w ∧ w < 4294967296) (hv : 0 ≤ v ∧ v < 4294967296) : ∀ w ∈ l.set n v, 0 ≤ w ∧ w < 4294967296 := fun w hw => by
  rcases List.mem_or_eq_of_mem_set hw with z | z
  · exact h w z
  · rw [z]; exact hv
/-- what a store makes of the memory -/
theorem st_mem {mm : Mm} {s : PS} {o : Nat} {q : Int × Int × Int} {b : Bool} {k : Int} (O : OkM mm s) (W : OkW mm s) (hd : isDd o = true) (h : plc mm (adM s q.1 q.2.2) (szM o) = some (b, k)) :
    OkM mm (stP mm o q s) ∧ OkW mm (stP mm o q s) ∧ ∀ x, memB mm (stP mm o q s) x = if adM s q.1 q.2.2 ≤ x ∧ x < adM s q.1 q.2.2 + szM o then some (byte (rgAt s.regs q.2.1) (x - adM s q.1 q.2.2)) else memB mm s x := by
  have hm := many_of hd
  obtain ⟨p1, p2, p3, p4, p5⟩ := plc_some O W hm h
  have pin := plc_in O hm h
  have h1 := O.dl; have h2 := O.sl; have h3 := O.d0; have h4 := O.s0; have h5 := W.ap
  have sok := shok_of hm p1
  generalize ha : adM s q.1 q.2.2 = a at *
  generalize hr : rgAt s.regs q.2.1 = r at *
  cases b with
  | true =>
    obtain ⟨t1, t2, t3⟩ := p4 rfl
    have hw := getD_rng W.s k.toNat
    obtain ⟨v1, v2⟩ := st_all (r := r) sok hw.1 hw.2
    have e : stP mm o q s = { s with stk := s.stk.set k.toNat (stW (szM o) (s.stk.getD k.toNat 0) r (8 * (a % 4))) } := by unfold stP; rw [ha, h, hr]
    rw [e]
    refine ⟨⟨h3, h4, h1, by show mm.se = mm.ss + 4 * ((s.stk.set _ _).length : Int); rw [List.length_set]; exact h2, O.dn, by show (s.stk.set _ _).length ≤ 1000; rw [List.length_set]; exact O.sn⟩, ⟨h5, W.d, set_rng W.s v1⟩, fun x => ?_⟩
    have pin2 : k < (s.stk.length : Int) := pin.2
    unfold memB
    dsimp only
    by_cases c1 : mm.ds ≤ x ∧ x < mm.de
    · rw [if_pos c1, if_pos c1, if_neg (by omega)]
    · rw [if_neg c1, if_neg c1]
      by_cases c2 : mm.ss ≤ x ∧ x < mm.se
      · rw [if_pos c2, if_pos c2, cellB_set (by omega) (by omega)]
        by_cases c3 : ((x - mm.ss) / 4).toNat = k.toNat
        · rw [if_pos c3]
          have c4 : (x - mm.ss) / 4 = (a - mm.ss) / 4 := by omega
          have v := v2 ((x - mm.ss) % 4) (by omega)
          rw [v]
          by_cases c5 : a % 4 ≤ (x - mm.ss) % 4 ∧ (x - mm.ss) % 4 < a % 4 + szM o
          · rw [if_pos c5, if_pos (by omega), show (x - mm.ss) % 4 - a % 4 = x - a by omega]
          · rw [if_neg c5, if_neg (by rcases hm with z | z | z <;> rw [z] at c5 p1 ⊢ <;> omega)]
            unfold cellB
            rw [c3]
        · rw [if_neg c3, if_neg (by rcases hm with z | z | z <;> rw [z] at p1 t2 ⊢ <;> omega)]
      · rw [if_neg c2, if_neg c2, if_neg (by omega)]
  | false =>
    obtain ⟨t1, t2, t3⟩ := p5 rfl
    have hw := getD_rng W.d k.toNat
    obtain ⟨v1, v2⟩ := st_all (r := r) sok hw.1 hw.2
    have e : stP mm o q s = { s with dat := s.dat.set k.toNat (stW (szM o) (s.dat.getD k.toNat 0) r (8 * (a % 4))) } := by unfold stP; rw [ha, h, hr]
    rw [e]
    refine ⟨⟨h3, h4, by show mm.de = mm.ds + 4 * ((s.dat.set _ _).length : Int); rw [List.length_set]; exact h1, h2, by show (s.dat.set _ _).length ≤ 1000; rw [List.length_set]; exact O.dn, O.sn⟩, ⟨h5, set_rng W.d v1, W.s⟩, fun x => ?_⟩
    have pin2 : k < (s.dat.length : Int) := pin.2
    unfold memB
    dsimp only
    by_cases c1 : mm.ds ≤ x ∧ x < mm.de
    · rw [if_pos c1, if_pos c1, cellB_set (by omega) (by omega)]
      by_cases c3 : ((x - mm.ds) / 4).toNat = k.toNat
      · rw [if_pos c3]
        have c4 : (x - mm.ds) / 4 = (a - mm.ds) / 4 := by omega
        have v := v2 ((x - mm.ds) % 4) (by omega)
        rw [v]
        by_cases c5 : a % 4 ≤ (x - mm.ds) % 4 ∧ (x - mm.ds) % 4 < a % 4 + szM o
        · rw [if_pos c5, if_pos (by omega), show (x - mm.ds) % 4 - a % 4 = x - a by omega]
        · rw [if_neg c5, if_neg (by rcases hm with z | z | z <;> rw [z] at c5 p1 ⊢ <;> omega)]
          unfold cellB
          rw [c3]
      · rw [if_neg c3, if_neg (by rcases hm with z | z | z <;> rw [z] at p1 t2 ⊢ <;> omega)]
    · rw [if_neg c1, if_neg c1]
      by_cases c2 : mm.ss ≤ x ∧ x < mm.se
      · rw [if_pos c2, if_neg (by omega)]
      · rw [if_neg c2, if_neg (by omega)]
end K82

namespace K82
open PySem PyProof.Rows L2 My Ru I6
open Builtin (bitAnd bitOr)
/-! dicts of bytes -/
structure MD (kvs : List (Key × V)) (f : Int → Option Int) (n : Nat) : Prop where
  v : ∀ k : Int, valV kvs (.inl k) = (f k).map V.int
  ks : ∃ ks : List Int, kvs.map (·.1) = ks.map Sum.inl ∧ ks.length ≤ n ∧ ∀ k, k ∈ ks ↔ (f k).isSome = true
theorem MD.nil : MD [] (fun _ => none) 0 := ⟨fun _ => rfl, [], rfl, Nat.le_refl 0, fun k => by simp⟩
theorem keys_put (kvs : List (Key × V)) (k : Key) (v : V) : (valV kvs k).isSome = true → (putK kvs k v).map (·.1) = kvs.map (·.1) := fun h => by
  unfold putK
  rw [if_pos (by rw [valV_any]; exact h), List.map_map]
  apply List.map_congr_left
  intro p _
  show (if p.1 = k then (p.1, v) else p).1 = p.1
  by_cases c : p.1 = k
  · rw [if_pos c]
  · rw [if_neg c]
theorem inl_eq (j k : Int) : ((Sum.inl j : Key) = Sum.inl k) ↔ j = k := ⟨fun h => by injection h, fun h => by rw [h]⟩
theorem MD.put {kvs : List (Key × V)} {f : Int → Option Int} {n : Nat} (h : MD kvs f n) (k v : Int) : MD (putK kvs (.inl k) (.int v)) (fun j => if j = k then some v else f j) (if (f k).isSome = true then n else n + 1) := by
  refine ⟨fun j => ?_, ?_⟩
  · rw [valV_put]
    by_cases c : j = k
    · rw [if_pos ((inl_eq j k).mpr c), if_pos c]; rfl
    · rw [if_neg (fun z => c ((inl_eq j k).mp z)), if_neg c]; exact h.v j
  · obtain ⟨ks, h1, h2, h3⟩ := h.ks
    by_cases c : (f k).isSome = true
    · rw [if_pos c]
      refine ⟨ks, by rw [keys_put _ _ _ (by rw [h.v, Option.isSome_map]; exact c)]; exact h1, h2, fun j => ?_⟩
      by_cases e : j = k
      · rw [if_pos e, e]; exact ⟨fun _ => rfl, fun _ => (h3 k).mpr c⟩
      · rw [if_neg e]; exact h3 j
    · rw [if_neg c]
      have hn : valV kvs (.inl k) = none := by
        rw [h.v]
        cases z : f k with
        | none => rfl
        | some u => rw [z] at c; exact absurd rfl c
      refine ⟨ks ++ [k], by rw [putK_new _ hn, List.map_append, List.map_append, h1]; rfl, by simp; exact h2, fun j => ?_⟩
      rw [List.mem_append, List.mem_singleton]
      by_cases e : j = k
      · rw [if_pos e]; exact ⟨fun _ => rfl, fun _ => Or.inr e⟩
      · rw [if_neg e]; exact ⟨fun z => z.elim (fun z => (h3 j).mp z) (fun z => absurd z e), fun z => Or.inl ((h3 j).mpr z)⟩
theorem MD.congr {kvs : List (Key × V)} {f g : Int → Option Int} {n m : Nat} (h : MD kvs f n) (e : ∀ k, f k = g k) (hn : n ≤ m) : MD kvs g m := by
  have : f = g := funext e
  subst this
  obtain ⟨ks, h1, h2, h3⟩ := h.ks
  exact ⟨h.v, ks, h1, Nat.le_trans h2 hn, h3⟩
def runK (d : Int) (g : Nat → Int) (n : Nat) : List (Key × V) := (List.range n).map fun (i : Nat) => ((.inl (d + (i : Int)) : Key), V.int (g i))
theorem runK_succ (d : Int) (g : Nat → Int) (n : Nat) : runK d g (n + 1) = runK d g n ++ [((.inl (d + (n : Int)) : Key), V.int (g n))] := by
  unfold runK
  rw [List.range_succ, List.map_append]; rfl
theorem mergeK_snoc (kvs l : List (Key × V)) (q : Key × V) : mergeK kvs (l ++ [q]) = putK (mergeK kvs l) q.1 q.2 := by
  unfold mergeK
  rw [List.foldl_append]; rfl
def runF (f : Int → Option Int) (d : Int) (g : Nat → Int) (n : Nat) (j : Int) : Option Int := if d ≤ j ∧ j < d + (n : Int) then some (g (j - d).toNat) else f j
theorem runF_succ (f : Int → Option Int) (d : Int) (g : Nat → Int) (n : Nat) (j : Int) : runF f d g (n + 1) j = if j = d + (n : Int) then some (g n) else runF f d g n j := by
  unfold runF
  by_cases c : j = d + (n : Int)
  · rw [if_pos c, if_pos (by omega), c, show (d + (n : Int) - d).toNat = n by omega]
  · rw [if_neg c]
    by_cases e : d ≤ j ∧ j < d + (n : Int)
    · rw [if_pos e, if_pos (by omega)]
    · rw [if_neg e, if_neg (by omega)]
theorem MD.run {kvs : List (Key × V)} {f : Int → Option Int} {m : Nat} (h : MD kvs f m) (d : Int) (g : Nat → Int) : ∀ n, MD (mergeK kvs (runK d g n)) (runF f d g n) (m + n)
  | 0 => h.congr (fun k => by unfold runF; rw [if_neg (by omega)]) (Nat.le_refl _)
  | n + 1 => by
    rw [runK_succ, mergeK_snoc]
    refine ((MD.run h d g n).put (d + (n : Int)) (g n)).congr (fun k => (runF_succ f d g n k).symm) ?_
    split <;> omega
theorem MD.runIn {kvs : List (Key × V)} {f : Int → Option Int} {m : Nat} (h : MD kvs f m) (d : Int) (g : Nat → Int) : ∀ n, (∀ i : Nat, i < n → (f (d + (i : Int))).isSome = true) → MD (mergeK kvs (runK d g n)) (runF f d g n) m
  | 0, _ => h.congr (fun k => by unfold runF; rw [if_neg (by omega)]) (Nat.le_refl _)
  | n + 1, hf => by
    rw [runK_succ, mergeK_snoc]
    have q := MD.runIn h d g n (fun i hi => hf i (by omega))
    refine (q.put (d + (n : Int)) (g n)).congr (fun k => (runF_succ f d g n k).symm) ?_
    have z : (runF f d g n (d + (n : Int))).isSome = true := by
      unfold runF
      rw [if_neg (by omega)]
      exact hf n (by omega)
    rw [if_pos z]
    exact Nat.le_refl _
theorem MD.len {kvs : List (Key × V)} {f : Int → Option Int} {n : Nat} (h : MD kvs f n) : kvs.length ≤ n := by
  obtain ⟨ks, h1, h2, _⟩ := h.ks
  have := congrArg List.length h1
  rw [List.length_map, List.length_map] at this
  omega
theorem runK_len (d : Int) (g : Nat → Int) (n : Nat) : (runK d g n).length = n := by
  unfold runK
  rw [List.length_map, List.length_range]
theorem run_none (d : Int) (g : Nat → Int) (k : Int) : ∀ n : Nat, ¬ (d ≤ k ∧ k < d + (n : Int)) → valV (runK d g n) (.inl k) = none := by
  intro n hn
  unfold valV
  rw [List.find?_eq_none.mpr]
  · rfl
  · intro p hp
    unfold runK at hp
    obtain ⟨i, hi, rfl⟩ := List.mem_map.mp hp
    have := List.mem_range.mp hi
    show ¬ (decide ((Sum.inl (d + (i : Int)) : Key) = Sum.inl k)) = true
    rw [decide_eq_false (fun z => by have := (inl_eq _ _).mp z; omega)]
    exact Bool.false_ne_true
theorem merge_run (d : Int) (g : Nat → Int) : ∀ n, mergeK [] (runK d g n) = runK d g n
  | 0 => rfl
  | n + 1 => by
    rw [runK_succ, mergeK_snoc, merge_run d g n, putK_new _ (run_none d g _ n (by omega))]
end K82

namespace K82
open PySem PyProof.Rows L2 My Ru I6
open Builtin (bitAnd bitOr)
def sizesK : List (Key × V) := [(.inr "lb", .int 1), (.inr "lbu", .int 1), (.inr "lh", .int 2), (.inr "lhu", .int 2), (.inr "lw", .int 4), (.inr "sb", .int 1), (.inr "sh", .int 2), (.inr "sw", .int 4)]
/-- what the law keeps -/
structure Cb (H : Hp) (d s0 zD W : Addr) (ms dat : List Int) (n : Int) : Prop where
  hd : H d = some (.lst [.ref s0, .int 0, .int n])
  hs : H s0 = some (.lst (ms.map V.int))
  sd : s0 ≠ d
  hz : H zD = some (.dK sizesK)
  hw : H W = some (.lst (dat.map V.int))
  wd : W ≠ d
section
variable {H H' : Hp} {d s0 zD W : Addr} {ms dat : List Int} {n : Int}
theorem Cb.same (C : Cb H d s0 zD W ms dat n) (s : Same H H') : Cb H' d s0 zD W ms dat n := ⟨s _ _ C.hd, s _ _ C.hs, C.sd, s _ _ C.hz, s _ _ C.hw, C.wd⟩
theorem Cb.draw (C : Cb H d s0 zD W ms dat n) (bt : ButL [d] H H') (e : H' d = some (.lst [.ref s0, .int 0, .int (n + 1)])) : Cb H' d s0 zD W ms dat (n + 1) :=
  ⟨e, bt _ _ C.hs (by simpa using C.sd), C.sd, bt _ _ C.hz (by simpa using ne_of C.hz C.hd (fun z => by cases z)), bt _ _ C.hw (by simpa using C.wd), C.wd⟩
end
def P0 (K : PySem.W.Frag) (sl : Addr) (σ : L2.St) (H : Hp) : Prop := ∃ ns0 : List Int, σ = some (.ref sl) :: List.replicate 24 none ∧ SqL K H sl (ns0.map V.int)
/-- the law's numbers -/
structure Nm (dat : List Int) (q r : Int) : Prop where
  l0 : 1 ≤ dat.length
  l1 : dat.length ≤ 6
  w : ∀ v ∈ dat, 0 ≤ v ∧ v < 4294967296
  q0 : 0 ≤ q
  q1 : q < 3
  r0 : 0 ≤ r
  r1 : r < 900
def P1 (_ : PySem.W.Frag) (sl : Addr) (σ : L2.St) (H : Hp) : Prop := ∃ (d s0 zD W : Addr) (ms dat : List Int) (q r n : Int), σ = [some (.ref sl), some (.ref d), some (.ref zD), some (.ref W), none, some (.int (dat.length : Int)), some (.int (16 * q)), some (.int (16 * r)), none, none, none, none, none, none, none, none, none, none, none, none, none, none, none, none, none] ∧ Cb H d s0 zD W ms dat n ∧ Nm dat q r ∧ 0 ≤ n ∧ n ≤ 20
def forB : Stmt → List Stmt
  | .For _ _ b _ _ => b
  | _ => []
abbrev turnB : List Stmt := forB ((defBody s_law).getD 4 (.Pass ⟨0, 0, 0, 0⟩))
abbrev machB : List Stmt := forB (turnB.getD 9 (.Pass ⟨0, 0, 0, 0⟩))
structure ImC (K : PySem.W.Frag) (H : Hp) (p : Addr) (cd : Nat × Int × Int × Int) (dat : List Int) (q r : Int) : Prop where
  im : ImOk K H p cd dat (16 * q) (16 * r)
  ok : CodeOk cd
theorem paired_same {K : PySem.W.Frag} {H H' : Hp} (s : Same H H') : ∀ {ps : List Addr} {kvs : List (Key × V)}, Paired (fun p kv => SqT K H p [kV kv.1, kv.2]) ps kvs → Paired (fun p kv => SqT K H' p [kV kv.1, kv.2]) ps kvs
  | _, _, .nil => .nil
  | _, _, .cons h t => .cons (SqT.same s h) (paired_same s t)
theorem ImC.same {K : PySem.W.Frag} {H H' : Hp} {p : Addr} {cd : Nat × Int × Int × Int} {dat : List Int} {q r : Int} (h : ImC K H p cd dat q r) (s : Same H H') : ImC K H' p cd dat q r := by
  obtain ⟨⟨wa, da, pl, tr, im, ta⟩, ok⟩ := h
  exact ⟨⟨wa, da, pl, tr, im.same s, ta.same s⟩, ok⟩
/-- the turn i of the law: its variables, what is kept -/
def PT (K : PySem.W.Frag) (i : Nat) (sl : Addr) (σ : L2.St) (H : Hp) : Prop := ∃ (d s0 zD W : Addr) (ms dat : List Int) (q r n : Int) (v4 v8 v9 v10 v11 v12 v13 v14 v15 v16 v17 v18 v19 v20 v21 v22 : Option V), σ = [some (.ref sl), some (.ref d), some (.ref zD), some (.ref W), v4, some (.int (dat.length : Int)), some (.int (16 * q)), some (.int (16 * r)), v8, v9, v10, v11, v12, v13, v14, v15, v16, v17, v18, v19, v20, v21, v22, none, none] ∧ Cb H d s0 zD W ms dat n ∧ Nm dat q r ∧ 0 ≤ n ∧ n ≤ 20 + 5 * (i : Int) ∧ (0 < i → ∃ im cd, v9 = some (.ref im) ∧ ImC K H im cd dat q r)
theorem okC_law {cd : Nat × Int × Int × Int} {r : Int} (h : CodeOk cd) (h0 : 0 ≤ r) : OkC ⟨[wrd cd, wrd cd, wrd cd], 16 * r⟩ := by
  refine ⟨by show 16 * r % 4 = 0; omega, fun w hw => ?_, by show 3 ≤ 1000; decide⟩
  have : w = wrd cd := by simpa using hw
  subst this
  refine ⟨h.rng, fun o ho => ?_⟩
  rw [h.dec] at ho
  cases ho
  rw [h.red]
  exact ⟨h.dd, h.q⟩
theorem bh_mod (n : Int) : bh n % 16 = 0 := by unfold bh; omega
theorem okW_law {K : PySem.W.Frag} {H : Hp} {a wa : Addr} {nw : Nat} {dat : List Int} {q r : Int} {m : Mc} {mm : Mm} (n : NewM K H a wa nw (dat.map V.int) (16 * q) (16 * r) m mm) (N : Nm dat q r) : OkW mm (s0P (16 * r) dat (16 * q)) := by
  have q2 := n.q2_; have q3 := n.q3_
  refine ⟨?_, N.w, fun w hw => ?_⟩
  · rw [q3, q2]; unfold bh; omega
  · have := List.eq_of_mem_replicate hw
    omega
def namesL : List Str := ["lb", "lbu", "lh", "lhu", "lw", "sb", "sh", "sw"]
theorem names_o : ∀ x ∈ namesL, ∃ o : Nat, isDd o = true ∧ x = nm o := by
  intro x hx
  simp only [namesL, List.mem_cons, List.not_mem_nil, or_false] at hx
  rcases hx with rfl | rfl | rfl | rfl | rfl | rfl | rfl | rfl
  · exact ⟨27, rfl, rfl⟩
  · exact ⟨30, rfl, rfl⟩
  · exact ⟨28, rfl, rfl⟩
  · exact ⟨31, rfl, rfl⟩
  · exact ⟨29, rfl, rfl⟩
  · exact ⟨33, rfl, rfl⟩
  · exact ⟨34, rfl, rfl⟩
  · exact ⟨35, rfl, rfl⟩
theorem dd_all {o : Nat} (h : isDd o = true) : o = 27 ∨ o = 28 ∨ o = 29 ∨ o = 30 ∨ o = 31 ∨ o = 33 ∨ o = 34 ∨ o = 35 := by
  unfold isDd at h
  rcases Bool.or_eq_true_iff.mp h with z | z
  · have z1 := of_decide_eq_true (Bool.and_eq_true_iff.mp z).1
    have z2 := of_decide_eq_true (Bool.and_eq_true_iff.mp z).2
    omega
  · have z1 := of_decide_eq_true (Bool.and_eq_true_iff.mp z).1
    have z2 := of_decide_eq_true (Bool.and_eq_true_iff.mp z).2
    omega
theorem size_at {o : Nat} (h : isDd o = true) : valV sizesK (.inr (nm o)) = some (.int (szM o)) := by
  rcases dd_all h with rfl | rfl | rfl | rfl | rfl | rfl | rfl | rfl <;> rfl
def cdM (o : Nat) (off : Int) : Nat × Int × Int × Int := if decide (o < 32) = true then (o, 6, 7, off) else (o, 7, 6, off)
theorem cdM_ok {o : Nat} {off : Int} (h : isDd o = true) (h0 : -2048 ≤ off) (h1 : off ≤ 2047) : CodeOk (cdM o off) := by
  unfold cdM
  split
  · exact ok_row h (by decide) (by decide) ⟨h0, h1⟩
  · exact ok_row h (by decide) (by decide) ⟨h0, h1⟩
def chM (o : Nat) : Nat := if decide (o < 32) = true then 108 else 115
theorem ch_at {o : Nat} (h : isDd o = true) : (nm o).length ≤ sizeLine ∧ atI (nm o).cps.toList 0 = some (chM o) ∧ decide (V.str ⟨#[chM o]⟩ = V.str "l") = decide (o < 32) := by
  rcases dd_all h with rfl | rfl | rfl | rfl | rfl | rfl | rfl | rfl <;> exact ⟨by decide +kernel, by decide +kernel, by decide +kernel⟩
def PB1 (K : PySem.W.Frag) (i : Nat) (sl : Addr) (σ : L2.St) (H : Hp) : Prop := ∃ (d s0 zD W im : Addr) (ms dat : List Int) (q r n off : Int) (o : Nat) (v4 v8 v10 v11 v12 v13 v14 v17 v18 v19 v20 v21 v22 : Option V), σ = [some (.ref sl), some (.ref d), some (.ref zD), some (.ref W), v4, some (.int (dat.length : Int)), some (.int (16 * q)), some (.int (16 * r)), v8, some (.ref im), v10, v11, v12, v13, v14, some (.str (nm o)), some (.int off), v17, v18, v19, v20, v21, v22, none, none] ∧ Cb H d s0 zD W ms dat n ∧ Nm dat q r ∧ 0 ≤ n ∧ n ≤ 22 + 5 * (i : Int) ∧ isDd o = true ∧ -2048 ≤ off ∧ off ≤ 2047 ∧ ImC K H im (cdM o off) dat q r
theorem SqT.butd {K : PySem.W.Frag} {H H' : Hp} {d p : Addr} {xs ys : List V} (bt : ButL [d] H H') (e : H d = some (.lst ys)) (h : SqT K H p xs) : SqT K H' p xs := by
  rcases h with (h | ⟨o, h⟩) | h
  · exact .inl (.inl (bt _ _ h (by simpa using ne_of h e (fun z => by cases z))))
  · exact .inl (.inr ⟨o, bt _ _ h (by simpa using ne_of h e (fun z => by cases z))⟩)
  · exact .inr h
def DS (r : Int) : Int := bh (16 * r + 4 * ((3 : Nat) : Int))
def SS (dat : List Int) (r : Int) : Int := bh (DS r + 4 * (dat.length : Int))
def heldF (dat : List Int) (q r : Int) : Int → Option Int := runF (runF (fun _ => none) (DS r) (fun i => cellB dat (i : Int)) (4 * dat.length)) (SS dat r) (fun _ => 0) (16 * q).toNat
/-- the pairs of a run as they lie in a list under way -/
def PrAt (K : PySem.W.Frag) (H : Hp) (D : Addr) (d : Int) (g : Nat → Int) (n : Nat) : Prop := ∃ ps : List Addr, ps.length = n ∧ H D = some (.lst (ps.map V.ref)) ∧ Paired (fun p kv => SqT K H p [kV kv.1, kv.2]) ps (runK d g n)
theorem PrAt.same {K : PySem.W.Frag} {H H' : Hp} {D : Addr} {d : Int} {g : Nat → Int} {n : Nat} (h : PrAt K H D d g n) (s : Same H H') : PrAt K H' D d g n := by
  obtain ⟨ps, a, b, c⟩ := h
  exact ⟨ps, a, s _ _ b, paired_same s c⟩
theorem paired_snoc {α β : Type} {R : α → β → Prop} : ∀ {as : List α} {bs : List β} {a : α} {b : β}, Paired R as bs → R a b → Paired R (as ++ [a]) (bs ++ [b])
  | _, _, _, _, .nil, h => .cons h .nil
  | _, _, _, _, .cons x t, h => .cons x (paired_snoc t h)
theorem PrAt.snoc {K : PySem.W.Frag} {H : Hp} {D p : Addr} {d : Int} {g : Nat → Int} {n : Nat} (h : PrAt K H D d g n) (e : H p = some (.tup [.int (d + (n : Int)), .int (g n)])) : ∃ acc, H D = some (.lst acc) ∧ acc.length = n ∧ PrAt K (upd H D (.lst (acc ++ [V.ref p]))) D d g (n + 1) := by
  obtain ⟨ps, a, b, c⟩ := h
  refine ⟨ps.map V.ref, b, by rw [List.length_map]; exact a, ps ++ [p], by simp [a], by rw [upd_same, List.map_append]; rfl, ?_⟩
  rw [runK_succ]
  have bt : ButL [D] H (upd H D (.lst (ps.map V.ref ++ [V.ref p]))) := ButL.put (by simp)
  refine paired_snoc (paired_imp (fun p kv z => SqT.butd bt b z) c) (SqT.butd bt b (SqT.of e))
theorem PrAt.nil {K : PySem.W.Frag} {H : Hp} {D : Addr} {d : Int} {g : Nat → Int} (e : H D = some (.lst [])) : PrAt K H D d g 0 := ⟨[], rfl, e, .nil⟩
def PB2 (K : PySem.W.Frag) (i : Nat) (sl : Addr) (σ : L2.St) (H : Hp) : Prop := ∃ (d s0 zD W im hA L : Addr) (ms dat pvs : List Int) (kvs : List (Key × V)) (q r n off : Int) (o : Nat) (v4 v8 v12 v13 v14 v17 v18 v19 v20 v21 v22 : Option V), σ = [some (.ref sl), some (.ref d), some (.ref zD), some (.ref W), v4, some (.int (dat.length : Int)), some (.int (16 * q)), some (.int (16 * r)), v8, some (.ref im), some (.ref hA), some (.ref L), v12, v13, v14, some (.str (nm o)), some (.int off), v17, v18, v19, v20, v21, v22, none, none] ∧ Cb H d s0 zD W ms dat n ∧ Nm dat q r ∧ 0 ≤ n ∧ n ≤ 22 + 5 * (i : Int) ∧ isDd o = true ∧ -2048 ≤ off ∧ off ≤ 2047 ∧ ImC K H im (cdM o off) dat q r ∧
  H hA = some (.dK kvs) ∧ MD kvs (heldF dat q r) 56 ∧ H L = some (.lst (pvs.map V.int)) ∧ L ≠ d ∧ pvs ≠ [] ∧ ∀ v ∈ pvs, 0 ≤ v ∧ v < 4294967296
theorem held_rng {dat : List Int} {q r k : Int} (N : Nm dat q r) (h : (heldF dat q r k).isSome = true) : 0 ≤ k ∧ k < 4294967296 := by
  have h1 := N.l1; have h2 := N.q0; have h3 := N.q1; have h4 := N.r0; have h5 := N.r1
  unfold heldF at h
  have e1 : SS dat r = bh (DS r + 4 * (dat.length : Int)) := rfl
  have e2 : DS r = bh (16 * r + 4 * ((3 : Nat) : Int)) := rfl
  unfold bh at e1 e2
  unfold runF at h
  split at h
  · omega
  · split at h
    · omega
    · cases h
theorem ds_rng {r : Int} (h0 : 0 ≤ r) (h1 : r < 900) : 16 ≤ DS r ∧ DS r ≤ 16000 := by
  have e2 : DS r = bh (16 * r + 4 * ((3 : Nat) : Int)) := rfl
  unfold bh at e2
  omega
theorem ss_rng {dat : List Int} {q r : Int} (N : Nm dat q r) : 16 ≤ SS dat r ∧ SS dat r ≤ 17000 := by
  have h1 := N.l1; have h4 := N.r0; have h5 := N.r1
  have e1 : SS dat r = bh (DS r + 4 * (dat.length : Int)) := rfl
  have e2 := ds_rng h4 h5
  unfold bh at e1
  omega
def bvM (f : Int → Option Int) (goal : Int) (j : Nat) : V := ((f (goal + (j : Int))).map V.int).getD .non
def bytesV (f : Int → Option Int) (goal many : Int) : List V := (List.range many.toNat).map (bvM f goal)
def PB3 (K : PySem.W.Frag) (i : Nat) (sl : Addr) (σ : L2.St) (H : Hp) : Prop := ∃ (d s0 zD W im hA BL : Addr) (ms dat : List Int) (kvs : List (Key × V)) (q r n off goal word : Int) (o : Nat) (v4 v8 v11 v14 v19 v20 v21 v22 : Option V), σ = [some (.ref sl), some (.ref d), some (.ref zD), some (.ref W), v4, some (.int (dat.length : Int)), some (.int (16 * q)), some (.int (16 * r)), v8, some (.ref im), some (.ref hA), v11, some (.int (szM o)), some (.ref BL), v14, some (.str (nm o)), some (.int off), some (.int goal), some (.int word), v19, v20, v21, v22, none, none] ∧ Cb H d s0 zD W ms dat n ∧ Nm dat q r ∧ 0 ≤ n ∧ n ≤ 25 + 5 * (i : Int) ∧ isDd o = true ∧ -2048 ≤ off ∧ off ≤ 2047 ∧ ImC K H im (cdM o off) dat q r ∧
  H hA = some (.dK kvs) ∧ MD kvs (heldF dat q r) 56 ∧ H BL = some (.lst (bytesV (heldF dat q r) goal (szM o))) ∧ (0 ≤ goal ∧ goal < 4294967296) ∧ 0 ≤ word ∧ word < 4294967296
theorem ImC.butd {K : PySem.W.Frag} {H H' : Hp} {p d : Addr} {cd : Nat × Int × Int × Int} {dat : List Int} {q r : Int} {ys : List V} (h : ImC K H p cd dat q r) (bt : ButL [d] H H') (e : H d = some (.lst ys)) : ImC K H' p cd dat q r := by
  obtain ⟨⟨wa, da, pl, tr, ⟨⟨v5, v6, z⟩, w, dd, pp⟩, ⟨o, ts, h1, h2, h3⟩⟩, ok⟩ := h
  exact ⟨⟨wa, da, pl, tr, ⟨⟨v5, v6, bt _ _ z (by simpa using ne_of z e (fun z => by cases z))⟩, SqT.butd bt e w, SqT.butd bt e dd, SqT.butd bt e pp⟩, ⟨o, ts, bt _ _ h1 (by simpa using ne_of h1 e (fun z => by cases z)), h2, paired_imp (fun p kv z => SqT.butd bt e z) h3⟩⟩, ok⟩
/-- the machine of a turn: its variables, what is kept, what follows -/
def PM (K : PySem.W.Frag) (sl : Addr) (D : L2.Ends) (σ : L2.St) (H : Hp) : Prop := ∃ (d zD W im hA BL x C dx : Addr) (m : Mc) (mm : Mm) (dat : List Int) (kvs : List (Key × V)) (q r off goal word : Int) (o : Nat) (v4 v8 v11 v19 v20 v21 v22 : Option V), σ = [some (.ref sl), some (.ref d), some (.ref zD), some (.ref W), v4, some (.int (dat.length : Int)), some (.int (16 * q)), some (.int (16 * r)), v8, some (.ref im), some (.ref hA), v11, some (.int (szM o)), some (.ref BL), some (.ref x), some (.str (nm o)), some (.int off), some (.int goal), some (.int word), v19, v20, v21, v22, none, none] ∧
  MS K H x C dx m mm ⟨[wrd (cdM o off), wrd (cdM o off), wrd (cdM o off)], 16 * r⟩ (s0P (16 * r) dat (16 * q)) ∧ OkM mm (s0P (16 * r) dat (16 * q)) ∧ OkW mm (s0P (16 * r) dat (16 * q)) ∧ (mm.ds = DS r ∧ mm.ss = SS dat r) ∧ Nm dat q r ∧ isDd o = true ∧ -2048 ≤ off ∧ off ≤ 2047 ∧ CodeOk (cdM o off) ∧
  H hA = some (.dK kvs) ∧ MD kvs (heldF dat q r) 56 ∧ H BL = some (.lst (bytesV (heldF dat q r) goal (szM o))) ∧ BL ≠ m.rg ∧ BL ≠ mm.da ∧ BL ≠ mm.sa ∧ (0 ≤ goal ∧ goal < 4294967296) ∧ (0 ≤ word ∧ word < 4294967296) ∧
  ∀ (σ' : L2.St) (H' : Hp), (∃ w8 w19 w20 w21 w22 : Option V, σ' = [some (.ref sl), some (.ref d), some (.ref zD), some (.ref W), v4, some (.int (dat.length : Int)), some (.int (16 * q)), some (.int (16 * r)), w8, some (.ref im), some (.ref hA), v11, some (.int (szM o)), some (.ref BL), some (.ref x), some (.str (nm o)), some (.int off), some (.int goal), some (.int word), w19, w20, w21, w22, none, none]) → ButL [x, m.rg, mm.da, mm.sa] H H' → D.nx σ' H' ∧ D.ct σ' H'
theorem mmF_ne (mm : Mm) (m : Mc) : mmF mm ≠ mfs m := fun z => by
  unfold mmF mfs at z
  injection z with z _
  injection z with z _
  exact absurd z (by decide +kernel)
theorem MS.apart {K : PySem.W.Frag} {H H' : Hp} {x C dx y D dy : Addr} {m m1 : Mc} {mm mm1 : Mm} {c c1 : Cfg} {s s1 : PS} (S : MS K H x C dx m mm c s) (S1 : MS K H y D dy m1 mm1 c1 s1) (bt : ButL [y, m1.rg, mm1.da, mm1.sa] H H') (n0 : x ≠ y) (n1 : m.rg ≠ m1.rg ∧ m.rg ≠ mm1.da ∧ m.rg ≠ mm1.sa) (n2 : mm.da ≠ m1.rg ∧ mm.da ≠ mm1.da ∧ mm.da ≠ mm1.sa) (n3 : mm.sa ≠ m1.rg ∧ mm.sa ≠ mm1.da ∧ mm.sa ≠ mm1.sa)
    (hc : ∀ w ∈ c.ws, ∃ o, decM w = some o) (hl : 0 < c.ws.length) : MS K H' x C dx m mm c s := by
  have k4 := S1.M.at_; have k5 := S1.M.rg; have k6 := S1.da; have k7 := S1.sa
  have tup : ∀ {p : Addr} {xs : List V}, H p = some (.tup xs) → H' p = some (.tup xs) := fun h => S1.tup4 bt h
  have at_ : H' x = some (.ins C dx (mfs m)) := bt _ _ S.M.at_ (by simp; exact ⟨n0, ne_of S.M.at_ k5 (fun z => by cases z), ne_of S.M.at_ k6 (fun z => by cases z), ne_of S.M.at_ k7 (fun z => by cases z)⟩)
  have rg := bt _ _ S.M.rg (by simp; exact ⟨ne_of S.M.rg k4 (fun z => by cases z), n1⟩)
  have da := bt _ _ S.da (by simp; exact ⟨ne_of S.da k4 (fun z => by cases z), n2⟩)
  have sa := bt _ _ S.sa (by simp; exact ⟨ne_of S.sa k4 (fun z => by cases z), n3⟩)
  obtain ⟨dm, hme⟩ := S.me
  have me : H' m.me = some (.ins (CE K) dm (mmF mm)) := bt _ _ hme (by
    simp
    refine ⟨ne_of hme k4 (fun z => ?_), ne_of hme k5 (fun z => by cases z), ne_of hme k6 (fun z => by cases z), ne_of hme k7 (fun z => by cases z)⟩
    injection z with _ _ z
    exact mmF_ne _ _ z)
  refine ⟨⟨at_, S.M.cl, rg, S.M.ln, S.M.ne, S.M.xo⟩, S.pc, S.nx, S.sp, ?_, ⟨dm, me⟩, S.nme, da, sa, S.n1, S.n2, S.n3, SqT.but4 bt k4 k5 k6 k7 S.w, S.st, fun hC => ?_⟩
  · rcases S.en with h | ⟨vs, t, h1, h2, h3⟩
    · exact .inl h
    · exact .inr ⟨vs, t, h1, h2, tup h3⟩
  · obtain ⟨l, vs, z1, z2, z3, z4, z6, z5⟩ := S.cr hC
    have key : ∀ {g : Addr} {l1 : List Int}, H g = some (.lst (l1.map V.int)) → l ≠ g := fun {g} {l1} hg => ne_of z2 hg (fun z => by
      injection z with z
      have hw : c.ws[0]? = some (c.ws[0]) := List.getElem?_eq_getElem hl
      obtain ⟨o, ho⟩ := hc _ (List.mem_of_getElem? hw)
      obtain ⟨p, e1, _⟩ := (z5.2 0 hl _ hw).2 o ho
      rw [z, List.getElem?_map] at e1
      cases q : l1[0]? with
      | none => rw [q] at e1; cases e1
      | some v => rw [q] at e1; cases e1)
    exact ⟨l, vs, z1, bt _ _ z2 (by simp; exact ⟨ne_of z2 k4 (fun z => by cases z), key k5, key k6, key k7⟩), z3, z4, z6, z5.keep fun p xs h => tup h⟩
theorem none_back {H H' : Hp} {a : Addr} (s : Same H H') (h : H' a = none) : H a = none := by
  cases e : H a with
  | none => rfl
  | some o => rw [s _ _ e] at h; cases h
theorem keep_old {B D D' : Hp} {x g p q : Addr} (h1 : B x = none) (h2 : B g = none) (h3 : B p = none) (h4 : B q = none) (bt : ButL [x, g, p, q] D D') (s : Same B D) : Same B D' := fun b o e =>
  bt _ _ (s _ _ e) (by simp; exact ⟨ne_of_none e h1, ne_of_none e h2, ne_of_none e h3, ne_of_none e h4⟩)
theorem mem_at {K : PySem.W.Frag} {H : Hp} {a wa : Addr} {dat : List Int} {q r : Int} {m : Mc} {mm : Mm} (n : NewM K H a wa 3 (dat.map V.int) (16 * q) (16 * r) m mm) : mm.ds = DS r ∧ mm.ss = SS dat r := by
  have q1 : mm.ds = DS r := n.q1_
  have q3 := n.q3_
  rw [List.length_map, q1] at q3
  exact ⟨q1, q3⟩
section
variable {P : Program} {w : World} {K : PySem.W.Frag} {mg : Str → Option Value} {base : Heap}
theorem sc_law : FnScope ["script", "draw", "sizes", "words", "turn", "many", "stack", "base", "row", "image", "held", "places", "size", "bytes_told", "machine", "name", "offset", "goal", "word", "late", "address", "at", "found", "byte", "step"] ["script"] (defScope s_law) := ⟨rfl, rfl, rfl, by decide +kernel, rfl, by decide +kernel, by decide +kernel⟩
theorem law_cA (T : Txt K mg w) (G__law_next : Gd P w K mg base CX0 3 "_law_next" ["draw", "bound"] (sp__law_next K)) (G__law_pick : Gd P w K mg base CX0 4 "_law_pick" ["draw", "things"] (sp__law_pick K)) (G__law_image : Gd P w K mg base CX0 5 "_law_image" ["rows", "words", "stack", "base"] (sp__law_image K)) (G_data_start : Gd P w K mg base CX0 2 "data_start" ["image"] (sp_data_start K)) (G_stack_start : Gd P w K mg base CX0 3 "stack_start" ["image"] (sp_stack_start K)) (G_Processor___init__ : Gm P w K mg base CX0 6 (He.ga K "Processor") "__init__" ["self", "image", "inputs"] (sp_Processor___init__ K)) (G_ReadyMachine___init__ : Gm P w K mg base CX0 7 (He.ga K "ReadyMachine") "__init__" ["self", "image", "inputs"] (sp_ReadyMachine___init__ K)) (G_Machine_step : Gm P w K mg base CX0 5 (He.ga K "Machine") "step" ["self"] (sp_Machine_step K)) (G_ReadyMachine_step : Gm P w K mg base CX0 5 (He.ga K "ReadyMachine") "step" ["self"] (sp_ReadyMachine_step K)) (G_Machine_field_at : Gm P w K mg base CX0 2 (He.ga K "Machine") "field_at" ["self", "address"] (sp_Machine_field_at K)) (G_ReadyMachine_field_at : Gm P w K mg base CX0 2 (He.ga K "ReadyMachine") "field_at" ["self", "address"] (sp_ReadyMachine_field_at K)) {f : Addr} {cdv : Value} {A : Around} {outer : List Env} {s : Shared} {H : Hp} {Q : VK} {E : XK} (hr : Room 8 (A.deeper (envOfC ("law" : Str) (defScope s_law) s.heap.objs.size f cdv))) (sl : Addr) (c : ∃ t, PSs ((cxOf CX0 P w K mg base ["script", "draw", "sizes", "words", "turn", "many", "stack", "base", "row", "image", "held", "places", "size", "bytes_told", "machine", "name", "offset", "goal", "word", "late", "address", "at", "found", "byte", "step"] ("law" : Str) (defScope s_law) f cdv A outer s H E).nox) ((defBody s_law).drop 4) t ∧ ∀ σ H1, P1 K sl σ H1 → t ({ nx := fun _ H' => Q V.non H', rt := Q } : L2.Ends) σ H1) : ∃ t, PSs ((cxOf CX0 P w K mg base ["script", "draw", "sizes", "words", "turn", "many", "stack", "base", "row", "image", "held", "places", "size", "bytes_told", "machine", "name", "offset", "goal", "word", "late", "address", "at", "found", "byte", "step"] ("law" : Str) (defScope s_law) f cdv A outer s H E).nox) ((defBody s_law).drop 0) t ∧ ∀ σ H1, P0 K sl σ H1 → t ({ nx := fun _ H' => Q V.non H', rt := Q } : L2.Ends) σ H1 := by
  have sc := sc_law
  obtain ⟨tt, ht, hq⟩ := c
  refine ⟨_, (pss_cons (ps_set (i := 1) sc.nd rfl (Or.inr rfl) (pe_lst (pa_cons (pe_slice sl_list (pv 0) po_none (po_some pe_int)) (pa_cons pe_int (pa_cons pe_int pa_nil)))))
      (pss_cons (ps_set (i := 2) sc.nd rfl (Or.inl rfl) (pe_disp (pps_cons pe_str pe_int (pps_cons pe_str pe_int (pps_cons pe_str pe_int (pps_cons pe_str pe_int (pps_cons pe_str pe_int (pps_cons pe_str pe_int (pps_cons pe_str pe_int (pps_cons pe_str pe_int pps_nil)))))))) rfl rfl (by simp) (by decide)))
      (pss_cons (ps_par3 (i := 5) (j := 6) (l := 7) (by rfl) sc.nd rfl rfl rfl (by decide) (by decide) (by decide) rfl rfl rfl (pa_cons (pe_op op_add pe_int (pe_g G__law_next (hr.mono (by omega)) pass0 (pa_cons (pv 1) (pa_cons pe_int pa_nil)))) (pa_cons (pe_op op_mul pe_int (pe_g G__law_next (hr.mono (by omega)) pass0 (pa_cons (pv 1) (pa_cons pe_int pa_nil)))) (pa_cons (pe_op op_mul pe_int (pe_g G__law_next (hr.mono (by omega)) pass0 (pa_cons (pv 1) (pa_cons pe_int pa_nil)))) pa_nil))) (by rfl))
      (pss_cons (ps_set (i := 3) sc.nd rfl (Or.inr rfl) (pe_lc (own := [("turn", 4)]) (g := gName 4) (by rfl) sc.nd (pi_range1 rfl T.n_range (pa_cons (pv 5) pa_nil)) (blkOk_by (own := [("turn", 4)]) (N := ["script", "draw", "sizes", "words", "turn", "many", "stack", "base", "row", "image", "held", "places", "size", "bytes_told", "machine", "name", "offset", "goal", "word", "late", "address", "at", "found", "byte", "step"]) (sc := defScope s_law) (by decide +kernel)) (fun _ _ _ _ _ => (pg_name (i := 4) sc.nd rfl (Or.inl rfl))) (fun _ _ _ _ _ => pts_nil) (fun _ _ _ _ _ => (pe_op op_mul (pe_g G__law_next (hr.mono (by omega)) pass0 (pa_cons (pv 1) (pa_cons pe_int pa_nil))) pe_int))) (Kg.sw_cell rfl))
      ht)))), fun σ Hq p => ?_⟩
  obtain ⟨ns0, rfl, hS⟩ := p
  obtain ⟨ms, hms⟩ := cut_ints ns0 none (some 63)
  refine ⟨_, rfl, 63, rfl, sl, _, rfl, hS, fun s0 hs0 => ?_⟩
  rw [hms]
  refine ⟨(by show 3 ≤ sizeLine; decide), fun d hd => ?_⟩
  have sd : s0 ≠ d := ne_of_none upd_same hd
  generalize hH1 : upd (upd Hq s0 (.lst (ms.map V.int))) d (.lst [.ref s0, .int 0, .int 0]) = H1 at *
  have hd1 : H1 d = some (.lst [.ref s0, .int 0, .int 0]) := by rw [← hH1]; exact upd_same
  have hs1 : H1 s0 = some (.lst (ms.map V.int)) := by rw [← hH1, upd_ne sd]; exact upd_same
  clear hH1 hd hs0 hS hms
  show ∀ t, _ → _
  intro zD hzD
  refine ⟨upd_same, sizesK, rfl, (by show 8 ≤ 15; decide), ?_⟩
  rw [show mergeK [] sizesK = sizesK by kernel_rfl, upd_upd]
  have q := same_new (o := .dK sizesK) hzD
  have hz1 : upd H1 zD (.dK sizesK) zD = some (.dK sizesK) := upd_same
  replace hd1 := q _ _ hd1
  replace hs1 := q _ _ hs1
  clear q hzD
  generalize upd H1 zD (.dK sizesK) = H2 at hz1 hd1 hs1 ⊢
  have nz : zD ≠ d := ne_of hz1 hd1 (fun z => by cases z)
  refine ⟨_, rfl, _, _, rfl, d, s0, ms, 0, 6, rfl, rfl, hd1, hs1, by decide, by decide, by decide, fun many H3 m0 m1 b3 e3 => ?_⟩
  have hs3 := b3 _ _ hs1 (by simpa using sd)
  have hz3 := b3 _ _ hz1 (by simpa using nz)
  refine ⟨_, _, rfl, rfl, ?_⟩
  refine ⟨_, rfl, _, _, rfl, d, s0, ms, 0 + 1, 3, rfl, rfl, e3, hs3, by decide, by decide, by decide, fun q H4 q0 q1 b4 e4 => ?_⟩
  have hs4 := b4 _ _ hs3 (by simpa using sd)
  have hz4 := b4 _ _ hz3 (by simpa using nz)
  refine ⟨_, _, rfl, rfl, Or.inl ⟨by decide, by decide⟩, ?_⟩
  refine ⟨_, rfl, _, _, rfl, d, s0, ms, 0 + 1 + 1, 900, rfl, rfl, e4, hs4, by decide, by decide, by decide, fun r H5 r0 r1 b5 e5 => ?_⟩
  have hs5 := b5 _ _ hs4 (by simpa using sd)
  have hz5 := b5 _ _ hz4 (by simpa using nz)
  refine ⟨_, _, rfl, rfl, Or.inl ⟨by decide, by decide⟩, ?_⟩
  clear b3 b4 b5 e3 e4 hs3 hs4 hz3 hz4 hd1 hs1 hz1
  refine ⟨_, _, _, rfl, ?_⟩
  refine ⟨_, rfl, 1 + many, rfl, by omega, by omega, fun W hW => ?_⟩
  have wd : W ≠ d := (ne_of_none e5 hW).symm
  have ws : W ≠ s0 := (ne_of_none hs5 hW).symm
  have wz : W ≠ zD := (ne_of_none hz5 hW).symm
  refine lc_range (n := (1 + many).toNat) (fun i H' => ∃ dat : List Int, dat.length = i ∧ (∀ v ∈ dat, 0 ≤ v ∧ v < 4294967296) ∧ H' W = some (.lst (dat.map V.int)) ∧ H' d = some (.lst [.ref s0, .int 0, .int (3 + (i : Int))]) ∧ H' s0 = some (.lst (ms.map V.int)) ∧ H' zD = some (.dK sizesK)) ⟨[], rfl, (fun v hv => by simp at hv), upd_same, same_new hW _ _ e5, same_new hW _ _ hs5, same_new hW _ _ hz5⟩ ?_ ?_
  · rintro i H6 hi ⟨dat, z1, zw, z2, z3, z4, z6⟩
    refine ⟨rfl, ?_⟩
    dsimp only [tYes]
    rw [if_pos rfl]
    refine ⟨_, rfl, _, _, rfl, d, s0, ms, 3 + (i : Int), 999983, rfl, rfl, z3, z4, by omega, by omega, by decide, fun v H7 v0 v1 b7 e7 => ?_⟩
    refine ⟨_, _, rfl, rfl, Or.inl ⟨by omega, by omega⟩, ?_⟩
    have z5 := b7 _ _ z2 (by simpa using wd)
    refine ⟨_, z5, tup_lt (by rw [List.length_map]; omega), dat ++ [v * 4294], by simp [z1], ?_, by rw [upd_same, List.map_append]; rfl, ?_, ?_, ?_⟩
    · intro x hx
      rcases List.mem_append.mp hx with hx | hx
      · exact zw x hx
      · rw [List.mem_singleton.mp hx]; omega
    · rw [upd_ne wd.symm, e7]
      have : (3 + (i : Int) + 1) = 3 + ((i + 1 : Nat) : Int) := by omega
      rw [this]
    · rw [upd_ne ws.symm]; exact b7 _ _ z4 (by simpa using sd)
    · rw [upd_ne wz.symm]; exact b7 _ _ z6 (by simpa using nz)
  rintro H6 ⟨dat, nl, zw, z2, z3, z4, z6⟩
  have e : (dat.length : Int) = 1 + many := by omega
  refine hq _ _ ⟨d, s0, zD, W, ms, dat, q, r, _, ?_, ⟨z3, z4, sd, z6, z2, wd⟩, ⟨by omega, by omega, zw, q0, q1, r0, r1⟩, by omega, by omega⟩
  rw [e]; rfl
theorem law_cR (T : Txt K mg w) (G__law_next : Gd P w K mg base CX0 3 "_law_next" ["draw", "bound"] (sp__law_next K)) (G__law_pick : Gd P w K mg base CX0 4 "_law_pick" ["draw", "things"] (sp__law_pick K)) (G__law_image : Gd P w K mg base CX0 5 "_law_image" ["rows", "words", "stack", "base"] (sp__law_image K)) (G_data_start : Gd P w K mg base CX0 2 "data_start" ["image"] (sp_data_start K)) (G_stack_start : Gd P w K mg base CX0 3 "stack_start" ["image"] (sp_stack_start K)) (G_Processor___init__ : Gm P w K mg base CX0 6 (He.ga K "Processor") "__init__" ["self", "image", "inputs"] (sp_Processor___init__ K)) (G_ReadyMachine___init__ : Gm P w K mg base CX0 7 (He.ga K "ReadyMachine") "__init__" ["self", "image", "inputs"] (sp_ReadyMachine___init__ K)) (G_Machine_step : Gm P w K mg base CX0 5 (He.ga K "Machine") "step" ["self"] (sp_Machine_step K)) (G_ReadyMachine_step : Gm P w K mg base CX0 5 (He.ga K "ReadyMachine") "step" ["self"] (sp_ReadyMachine_step K)) (G_Machine_field_at : Gm P w K mg base CX0 2 (He.ga K "Machine") "field_at" ["self", "address"] (sp_Machine_field_at K)) (G_ReadyMachine_field_at : Gm P w K mg base CX0 2 (He.ga K "ReadyMachine") "field_at" ["self", "address"] (sp_ReadyMachine_field_at K)) {f : Addr} {cdv : Value} {A : Around} {outer : List Env} {s : Shared} {H : Hp} {Q : VK} {E : XK} (hr : Room 8 (A.deeper (envOfC ("law" : Str) (defScope s_law) s.heap.objs.size f cdv))) (sl : Addr) (h : ∀ H' : Hp, Q (.bl true) H') : ∃ t, PSs ((cxOf CX0 P w K mg base ["script", "draw", "sizes", "words", "turn", "many", "stack", "base", "row", "image", "held", "places", "size", "bytes_told", "machine", "name", "offset", "goal", "word", "late", "address", "at", "found", "byte", "step"] ("law" : Str) (defScope s_law) f cdv A outer s H E).nox) ((defBody s_law).drop 5) t ∧ ∀ σ H1, PT K 24 sl σ H1 → t ({ nx := fun _ H' => Q V.non H', rt := Q } : L2.Ends) σ H1 := by
  have sc := sc_law
  refine ⟨_, (pss_one (ps_ret (pe_cmpR op_isN (pe_ix ix_tup (pe_gm (pe_mkG (Mh.Gm.heir G_Processor___init__ T.hi_Machine_init) T.mk_Machine T.cl_Machine.g (hr.mono (by omega)) pass0 (pa_cons (pv 9) (pa_cons (pe_lst pa_nil) pa_nil))) T.cl_Machine.c G_Machine_field_at (hr.mono (by omega)) pass0 (pa_cons (pe_op op_sub (pe_g G_data_start (hr.mono (by omega)) pass0 (pa_cons (pv 9) pa_nil)) pe_int) pa_nil)) pe_int (fun _ _ => rfl)) pe_non (nomark _)))), fun σ Hq p => ?_⟩
  obtain ⟨d, s0, zD, W, ms, dat, q, r, n, v4, v8, v9, v10, v11, v12, v13, v14, v15, v16, v17, v18, v19, v20, v21, v22, rfl, C, N, n0, n1, hi⟩ := p
  obtain ⟨im, cd, rfl, ⟨⟨wa, da, pl, tr, ia, ta⟩, ok⟩⟩ := hi (by decide)
  refine ⟨_, rfl, (by show 0 ≤ sizeLine; decide), fun li hli x dx hx hz nd => ?_⟩
  have sL : Same Hq (upd Hq li (.lst [])) := same_new hli
  have s2 := same2 (o1 := .own x) (o2 := .ins (CM K) dx []) hx hz nd
  refine ⟨_, _, _, rfl, x, CM K, dx, im, wa, da, pl, tr, li, _, dat.map V.int, _, 16 * q, 16 * r, _, _, rfl, rfl, rfl, Or.inl rfl, upd_same, SqL.of (s2 _ _ upd_same), by have := N.q0; omega, by have := N.q1; omega, (ia.same sL).same s2, (ta.same sL).same s2, ⟨(fun v hv => ((okC_law ok N.r0).ws v hv).1), by show 3 ≤ 1000; decide⟩, fun H3 m mm c1 e1 N1 hn f1 f2 f3 => ⟨rfl, ?_⟩⟩
  have S := N1.ms (c := ⟨[wrd cd, wrd cd, wrd cd], 16 * r⟩) (Or.inl rfl) e1 (Or.inl hn) (((ia.same sL).same s2).but c1 upd_same) (fun z => absurd z T.ne_cls)
  refine ⟨x, dx, _, rfl, S.M.at_, lk_field_at S.M.xo, ?_⟩
  refine ⟨_, rfl, _, rfl, im, wa, da, pl, tr, _, _, _, _, _, rfl, ((ia.same sL).same s2).but c1 upd_same, ?_⟩
  refine ⟨_, _, rfl, rfl, ?_⟩
  refine ⟨_, _, rfl, x, dx, m, mm, _, _, _, rfl, rfl, S, fun H4 p s4 hp => ?_⟩
  have pn : plc mm (bh (16 * r + 4 * (([wrd cd, wrd cd, wrd cd] : List Int).length : Int)) - 4) 4 = none := by
    have q1 := N1.q1_; have q2 := N1.q2_; have q3 := N1.q3_; have q4 := N1.q4_
    unfold plc
    rw [← q1]
    have q5 : mm.ss ≥ mm.de := by rw [q3, q2]; unfold bh; omega
    have q6 : mm.de ≥ mm.ds := by rw [q2]; omega
    split
    · rw [if_neg (by omega), if_neg (by omega)]
    · rfl
  unfold plcV at hp
  rw [pn] at hp
  refine ⟨p, _, 0, _, rfl, rfl, SqT.of hp, rfl, ?_⟩
  exact ⟨rfl, by rw [decide_eq_true rfl]; exact h _⟩
theorem law_cL (T : Txt K mg w) (G__law_next : Gd P w K mg base CX0 3 "_law_next" ["draw", "bound"] (sp__law_next K)) (G__law_pick : Gd P w K mg base CX0 4 "_law_pick" ["draw", "things"] (sp__law_pick K)) (G__law_image : Gd P w K mg base CX0 5 "_law_image" ["rows", "words", "stack", "base"] (sp__law_image K)) (G_data_start : Gd P w K mg base CX0 2 "data_start" ["image"] (sp_data_start K)) (G_stack_start : Gd P w K mg base CX0 3 "stack_start" ["image"] (sp_stack_start K)) (G_Processor___init__ : Gm P w K mg base CX0 6 (He.ga K "Processor") "__init__" ["self", "image", "inputs"] (sp_Processor___init__ K)) (G_ReadyMachine___init__ : Gm P w K mg base CX0 7 (He.ga K "ReadyMachine") "__init__" ["self", "image", "inputs"] (sp_ReadyMachine___init__ K)) (G_Machine_step : Gm P w K mg base CX0 5 (He.ga K "Machine") "step" ["self"] (sp_Machine_step K)) (G_ReadyMachine_step : Gm P w K mg base CX0 5 (He.ga K "ReadyMachine") "step" ["self"] (sp_ReadyMachine_step K)) (G_Machine_field_at : Gm P w K mg base CX0 2 (He.ga K "Machine") "field_at" ["self", "address"] (sp_Machine_field_at K)) (G_ReadyMachine_field_at : Gm P w K mg base CX0 2 (He.ga K "ReadyMachine") "field_at" ["self", "address"] (sp_ReadyMachine_field_at K)) {f : Addr} {cdv : Value} {A : Around} {outer : List Env} {s : Shared} {H : Hp} {Q : VK} {E : XK} (hr : Room 8 (A.deeper (envOfC ("law" : Str) (defScope s_law) s.heap.objs.size f cdv))) (sl : Addr) (cb : ∃ t, PSs ((cxOf CX0 P w K mg base ["script", "draw", "sizes", "words", "turn", "many", "stack", "base", "row", "image", "held", "places", "size", "bytes_told", "machine", "name", "offset", "goal", "word", "late", "address", "at", "found", "byte", "step"] ("law" : Str) (defScope s_law) f cdv A outer s H E).nox) turnB t ∧ ∀ (i : Nat) (D : L2.Ends) σ H1, i < 24 → (∀ σ' H', PT K (i + 1) sl σ' H' → D.nx σ' H') → PT K i sl σ H1 → t D σ H1) (c : ∃ t, PSs ((cxOf CX0 P w K mg base ["script", "draw", "sizes", "words", "turn", "many", "stack", "base", "row", "image", "held", "places", "size", "bytes_told", "machine", "name", "offset", "goal", "word", "late", "address", "at", "found", "byte", "step"] ("law" : Str) (defScope s_law) f cdv A outer s H E).nox) ((defBody s_law).drop 5) t ∧ ∀ σ H1, PT K 24 sl σ H1 → t ({ nx := fun _ H' => Q V.non H', rt := Q } : L2.Ends) σ H1) : ∃ t, PSs ((cxOf CX0 P w K mg base ["script", "draw", "sizes", "words", "turn", "many", "stack", "base", "row", "image", "held", "places", "size", "bytes_told", "machine", "name", "offset", "goal", "word", "late", "address", "at", "found", "byte", "step"] ("law" : Str) (defScope s_law) f cdv A outer s H E).nox) ((defBody s_law).drop 4) t ∧ ∀ σ H1, P1 K sl σ H1 → t ({ nx := fun _ H' => Q V.non H', rt := Q } : L2.Ends) σ H1 := by
  have sc := sc_law
  obtain ⟨tt, ht, hq⟩ := c
  obtain ⟨tb, hb, hqb⟩ := cb
  refine ⟨_, (pss_cons (ps_for PassesOwn.never rfl (pi_range1 rfl T.n_range (pa_cons pe_int pa_nil)) (pg_name (i := 4) sc.nd rfl (Or.inl rfl)) hb) ht), fun σ Hq p => ?_⟩
  obtain ⟨d, s0, zD, W, ms, dat, q, r, n, rfl, C, N, n0, n1⟩ := p
  refine ⟨24, rfl, by decide, by decide, ?_⟩
  refine for_range (n := 24) (fun i σ H' => PT K i sl σ H') ⟨d, s0, zD, W, ms, dat, q, r, n, _, _, _, _, _, _, _, _, _, _, _, _, _, _, _, _, rfl, C, N, n0, by omega, fun z => absurd z (by decide)⟩ ?_ (fun σ H' p => hq σ H' p)
  rintro i σ H3 hi ⟨d, s0, zD, W, ms, dat, q, r, n, v4, v8, v9, v10, v11, v12, v13, v14, v15, v16, v17, v18, v19, v20, v21, v22, rfl, C, N, n0, n1, him⟩
  exact hqb i _ _ _ hi (fun _ _ p => p) ⟨d, s0, zD, W, ms, dat, q, r, n, _, _, _, _, _, _, _, _, _, _, _, _, _, _, _, _, rfl, C, N, n0, n1, him⟩
theorem law_cB1 (T : Txt K mg w) (G__law_next : Gd P w K mg base CX0 3 "_law_next" ["draw", "bound"] (sp__law_next K)) (G__law_pick : Gd P w K mg base CX0 4 "_law_pick" ["draw", "things"] (sp__law_pick K)) (G__law_image : Gd P w K mg base CX0 5 "_law_image" ["rows", "words", "stack", "base"] (sp__law_image K)) (G_data_start : Gd P w K mg base CX0 2 "data_start" ["image"] (sp_data_start K)) (G_stack_start : Gd P w K mg base CX0 3 "stack_start" ["image"] (sp_stack_start K)) (G_Processor___init__ : Gm P w K mg base CX0 6 (He.ga K "Processor") "__init__" ["self", "image", "inputs"] (sp_Processor___init__ K)) (G_ReadyMachine___init__ : Gm P w K mg base CX0 7 (He.ga K "ReadyMachine") "__init__" ["self", "image", "inputs"] (sp_ReadyMachine___init__ K)) (G_Machine_step : Gm P w K mg base CX0 5 (He.ga K "Machine") "step" ["self"] (sp_Machine_step K)) (G_ReadyMachine_step : Gm P w K mg base CX0 5 (He.ga K "ReadyMachine") "step" ["self"] (sp_ReadyMachine_step K)) (G_Machine_field_at : Gm P w K mg base CX0 2 (He.ga K "Machine") "field_at" ["self", "address"] (sp_Machine_field_at K)) (G_ReadyMachine_field_at : Gm P w K mg base CX0 2 (He.ga K "ReadyMachine") "field_at" ["self", "address"] (sp_ReadyMachine_field_at K)) {f : Addr} {cdv : Value} {A : Around} {outer : List Env} {s : Shared} {H : Hp} {Q : VK} {E : XK} (hr : Room 8 (A.deeper (envOfC ("law" : Str) (defScope s_law) s.heap.objs.size f cdv))) (sl : Addr) (c : ∃ t, PSs ((cxOf CX0 P w K mg base ["script", "draw", "sizes", "words", "turn", "many", "stack", "base", "row", "image", "held", "places", "size", "bytes_told", "machine", "name", "offset", "goal", "word", "late", "address", "at", "found", "byte", "step"] ("law" : Str) (defScope s_law) f cdv A outer s H E).nox) (turnB.drop 3) t ∧ ∀ (i : Nat) (D : L2.Ends) σ H1, i < 24 → (∀ σ' H', PT K (i + 1) sl σ' H' → D.nx σ' H') → PB1 K i sl σ H1 → t D σ H1) : ∃ t, PSs ((cxOf CX0 P w K mg base ["script", "draw", "sizes", "words", "turn", "many", "stack", "base", "row", "image", "held", "places", "size", "bytes_told", "machine", "name", "offset", "goal", "word", "late", "address", "at", "found", "byte", "step"] ("law" : Str) (defScope s_law) f cdv A outer s H E).nox) (turnB.drop 0) t ∧ ∀ (i : Nat) (D : L2.Ends) σ H1, i < 24 → (∀ σ' H', PT K (i + 1) sl σ' H' → D.nx σ' H') → PT K i sl σ H1 → t D σ H1 := by
  have sc := sc_law
  obtain ⟨tt, ht, hq⟩ := c
  refine ⟨_, (pss_cons (ps_par (i := 15) (j := 16) (by rfl) sc.nd rfl rfl (by decide) rfl rfl (pa_cons (pe_g G__law_pick (hr.mono (by omega)) pass0 (pa_cons (pv 1) (pa_cons (pe_callB (call_sortedD rfl) (by rfl) T.n_sorted (by decide +kernel) (pa_cons (pv 2) pa_nil)) pa_nil))) (pa_cons (pe_op op_sub (pe_g G__law_next (hr.mono (by omega)) pass0 (pa_cons (pv 1) (pa_cons pe_int pa_nil))) pe_int) pa_nil)) (by rfl))
      (pss_cons (ps_set (i := 8) sc.nd rfl (Or.inl rfl) (pe_ifExp (pt_cmpR op_eq (pe_ix ix_str (pv 15) pe_int (fun _ _ => rfl)) pe_str (nomark _)) (pe_tup (pa_cons (pv 15) (pa_cons pe_int (pa_cons pe_int (pa_cons (pv 16) pa_nil))))) (pe_tup (pa_cons (pv 15) (pa_cons pe_int (pa_cons pe_int (pa_cons (pv 16) pa_nil)))))))
      (pss_cons (ps_set (i := 9) sc.nd rfl (Or.inr rfl) (pe_g G__law_image (hr.mono (by omega)) pass0 (pa_cons (pe_op op_rep (pe_lst (pa_cons (pv 8) pa_nil)) pe_int) (pa_cons (pv 3) (pa_cons (pv 6) (pa_cons (pv 7) pa_nil))))))
      ht))), fun i D σ Hq hi hD p => ?_⟩
  obtain ⟨d, s0, zD, W, ms, dat, q, r, n, v4, v8, v9, v10, v11, v12, v13, v14, v15, v16, v17, v18, v19, v20, v21, v22, rfl, C, N, n0, n1, _⟩ := p
  refine ⟨_, rfl, _, rfl, zD, sizesK, namesL, rfl, .inl C.hz, rfl, by decide, fun ys L hperm _ hL => ?_⟩
  have nL : L ≠ d := (ne_of_none C.hd hL).symm
  replace C := C.same (same_new (o := .lst (ys.map V.str)) hL)
  have yn : ys.map V.str ≠ [] := fun z => by
    have := hperm.length_eq
    rw [List.map_eq_nil_iff.mp z] at this
    cases this
  refine ⟨_, _, rfl, d, s0, ms, n, L, ys.map V.str, rfl, rfl, C.hd, C.hs, n0, by omega, upd_same, nL, yn, fun v H2 hv b2 e2 => ?_⟩
  replace C := C.draw b2 e2
  obtain ⟨x, hx, rfl⟩ := List.mem_map.mp hv
  obtain ⟨o, ho, rfl⟩ := names_o x (hperm.mem_iff.mp hx)
  clear b2 e2 hv hx yn hperm hL
  refine ⟨_, rfl, _, _, rfl, d, s0, ms, n + 1, 4096, rfl, rfl, C.hd, C.hs, by omega, by omega, by decide, fun rr H3 r0 r1 b3 e3 => ?_⟩
  replace C := C.draw b3 e3
  clear b3 e3
  refine ⟨_, _, rfl, rfl, ?_⟩
  refine ⟨_, _, rfl, ?_⟩
  obtain ⟨c1, c2, c3⟩ := ch_at ho
  have ok := cdM_ok (off := rr - 2048) ho (by omega) (by omega)
  refine ⟨_, rfl, _, 0, _, rfl, rfl, c1, c2, rfl, _, rfl, ?_⟩
  by_cases z : o < 32
  · refine if_true_of (by rw [c3]; exact decide_eq_true z) ?_
    have ec : cdM o (rr - 2048) = (o, 6, 7, rr - 2048) := if_pos (decide_eq_true z)
    refine ⟨_, rfl, _, rfl, (by show 4 ≤ sizeLine; decide), fun t ht1 => ?_⟩
    have q1 := same_new (o := .tup [.str (nm o), .int 6, .int 7, .int (rr - 2048)]) ht1
    have et : upd H3 t (.tup [.str (nm o), .int 6, .int 7, .int (rr - 2048)]) t = some (.tup [.str (nm o), .int 6, .int 7, .int (rr - 2048)]) := upd_same
    replace C := C.same q1
    clear q1 ht1
    generalize upd H3 t (.tup [.str (nm o), .int 6, .int 7, .int (rr - 2048)]) = A1 at C et ⊢
    refine ⟨_, rfl, (by show 1 ≤ sizeLine; decide), fun l1 hl1 => ?_⟩
    have q1 := same_new (o := .lst [.ref t]) hl1
    have el : upd A1 l1 (.lst [.ref t]) l1 = some (.lst [.ref t]) := upd_same
    replace C := C.same q1
    replace et := q1 _ _ et
    clear q1 hl1
    generalize upd A1 l1 (.lst [.ref t]) = A2 at C et el ⊢
    refine ⟨l1, 3, [.ref t], rfl, rfl, el, by decide, by decide, by show 1 * 3 ≤ sizeLine; decide, fun R hR => ?_⟩
    have q1 := same_new (o := .lst (List.replicate (3 : Int).toNat [V.ref t]).flatten) hR
    have eR : upd A2 R (.lst (List.replicate (3 : Int).toNat [V.ref t]).flatten) R = some (.lst [.ref t, .ref t, .ref t]) := upd_same
    replace C := C.same q1
    replace et := q1 _ _ et
    clear q1 hR el
    generalize upd A2 R (.lst (List.replicate (3 : Int).toNat [V.ref t]).flatten) = A3 at C et eR ⊢
    refine ⟨_, rfl, _, rfl, _, rfl, ?_⟩
    refine ⟨_, _, _, _, rfl, R, W, t, cdM o (rr - 2048), dat, 16 * q, 16 * r, rfl, rfl, rfl, rfl, eR, by rw [ec]; exact et, ok, C.hw, fun A4 im q1 iM => ?_⟩
    replace C := C.same q1
    exact hq i D _ _ hi hD ⟨d, s0, zD, W, im, ms, dat, q, r, n + 1 + 1, rr - 2048, o, _, _, _, _, _, _, _, _, _, _, _, _, _, rfl, C, N, by omega, by omega, ho, by omega, by omega, ⟨iM, ok⟩⟩
  · refine if_false_of (by rw [c3]; exact decide_eq_false z) ?_
    have ec : cdM o (rr - 2048) = (o, 7, 6, rr - 2048) := if_neg (by rw [decide_eq_false z]; exact Bool.false_ne_true)
    refine ⟨_, rfl, _, rfl, (by show 4 ≤ sizeLine; decide), fun t ht1 => ?_⟩
    have q1 := same_new (o := .tup [.str (nm o), .int 7, .int 6, .int (rr - 2048)]) ht1
    have et : upd H3 t (.tup [.str (nm o), .int 7, .int 6, .int (rr - 2048)]) t = some (.tup [.str (nm o), .int 7, .int 6, .int (rr - 2048)]) := upd_same
    replace C := C.same q1
    clear q1 ht1
    generalize upd H3 t (.tup [.str (nm o), .int 7, .int 6, .int (rr - 2048)]) = A1 at C et ⊢
    refine ⟨_, rfl, (by show 1 ≤ sizeLine; decide), fun l1 hl1 => ?_⟩
    have q1 := same_new (o := .lst [.ref t]) hl1
    have el : upd A1 l1 (.lst [.ref t]) l1 = some (.lst [.ref t]) := upd_same
    replace C := C.same q1
    replace et := q1 _ _ et
    clear q1 hl1
    generalize upd A1 l1 (.lst [.ref t]) = A2 at C et el ⊢
    refine ⟨l1, 3, [.ref t], rfl, rfl, el, by decide, by decide, by show 1 * 3 ≤ sizeLine; decide, fun R hR => ?_⟩
    have q1 := same_new (o := .lst (List.replicate (3 : Int).toNat [V.ref t]).flatten) hR
    have eR : upd A2 R (.lst (List.replicate (3 : Int).toNat [V.ref t]).flatten) R = some (.lst [.ref t, .ref t, .ref t]) := upd_same
    replace C := C.same q1
    replace et := q1 _ _ et
    clear q1 hR el
    generalize upd A2 R (.lst (List.replicate (3 : Int).toNat [V.ref t]).flatten) = A3 at C et eR ⊢
    refine ⟨_, rfl, _, rfl, _, rfl, ?_⟩
    refine ⟨_, _, _, _, rfl, R, W, t, cdM o (rr - 2048), dat, 16 * q, 16 * r, rfl, rfl, rfl, rfl, eR, by rw [ec]; exact et, ok, C.hw, fun A4 im q1 iM => ?_⟩
    replace C := C.same q1
    exact hq i D _ _ hi hD ⟨d, s0, zD, W, im, ms, dat, q, r, n + 1 + 1, rr - 2048, o, _, _, _, _, _, _, _, _, _, _, _, _, _, rfl, C, N, by omega, by omega, ho, by omega, by omega, ⟨iM, ok⟩⟩
theorem law_cB2 (T : Txt K mg w) (G__law_next : Gd P w K mg base CX0 3 "_law_next" ["draw", "bound"] (sp__law_next K)) (G__law_pick : Gd P w K mg base CX0 4 "_law_pick" ["draw", "things"] (sp__law_pick K)) (G__law_image : Gd P w K mg base CX0 5 "_law_image" ["rows", "words", "stack", "base"] (sp__law_image K)) (G_data_start : Gd P w K mg base CX0 2 "data_start" ["image"] (sp_data_start K)) (G_stack_start : Gd P w K mg base CX0 3 "stack_start" ["image"] (sp_stack_start K)) (G_Processor___init__ : Gm P w K mg base CX0 6 (He.ga K "Processor") "__init__" ["self", "image", "inputs"] (sp_Processor___init__ K)) (G_ReadyMachine___init__ : Gm P w K mg base CX0 7 (He.ga K "ReadyMachine") "__init__" ["self", "image", "inputs"] (sp_ReadyMachine___init__ K)) (G_Machine_step : Gm P w K mg base CX0 5 (He.ga K "Machine") "step" ["self"] (sp_Machine_step K)) (G_ReadyMachine_step : Gm P w K mg base CX0 5 (He.ga K "ReadyMachine") "step" ["self"] (sp_ReadyMachine_step K)) (G_Machine_field_at : Gm P w K mg base CX0 2 (He.ga K "Machine") "field_at" ["self", "address"] (sp_Machine_field_at K)) (G_ReadyMachine_field_at : Gm P w K mg base CX0 2 (He.ga K "ReadyMachine") "field_at" ["self", "address"] (sp_ReadyMachine_field_at K)) {f : Addr} {cdv : Value} {A : Around} {outer : List Env} {s : Shared} {H : Hp} {Q : VK} {E : XK} (hr : Room 8 (A.deeper (envOfC ("law" : Str) (defScope s_law) s.heap.objs.size f cdv))) (sl : Addr) (c : ∃ t, PSs ((cxOf CX0 P w K mg base ["script", "draw", "sizes", "words", "turn", "many", "stack", "base", "row", "image", "held", "places", "size", "bytes_told", "machine", "name", "offset", "goal", "word", "late", "address", "at", "found", "byte", "step"] ("law" : Str) (defScope s_law) f cdv A outer s H E).nox) (turnB.drop 6) t ∧ ∀ (i : Nat) (D : L2.Ends) σ H1, i < 24 → (∀ σ' H', PT K (i + 1) sl σ' H' → D.nx σ' H') → PB2 K i sl σ H1 → t D σ H1) : ∃ t, PSs ((cxOf CX0 P w K mg base ["script", "draw", "sizes", "words", "turn", "many", "stack", "base", "row", "image", "held", "places", "size", "bytes_told", "machine", "name", "offset", "goal", "word", "late", "address", "at", "found", "byte", "step"] ("law" : Str) (defScope s_law) f cdv A outer s H E).nox) (turnB.drop 3) t ∧ ∀ (i : Nat) (D : L2.Ends) σ H1, i < 24 → (∀ σ' H', PT K (i + 1) sl σ' H' → D.nx σ' H') → PB1 K i sl σ H1 → t D σ H1 := by
  have sc := sc_law
  obtain ⟨tt, ht, hq⟩ := c
  refine ⟨_, (pss_cons (ps_set (i := 10) sc.nd rfl (Or.inr rfl) (pe_callTy (call_dictP rfl) (by rfl) T.n_dict (by decide +kernel) (pa_cons (pe_lc (own := [("at", 21)]) (g := gName 21) (by rfl) sc.nd (pi_range1 rfl T.n_range (pa_cons (pe_op op_mul pe_int (pv 5)) pa_nil)) (blkOk_by (own := [("at", 21)]) (N := ["script", "draw", "sizes", "words", "turn", "many", "stack", "base", "row", "image", "held", "places", "size", "bytes_told", "machine", "name", "offset", "goal", "word", "late", "address", "at", "found", "byte", "step"]) (sc := defScope s_law) (by decide +kernel)) (fun _ _ _ _ _ => (pg_name (i := 21) sc.nd rfl (Or.inl rfl))) (fun _ _ _ _ _ => pts_nil) (fun _ _ _ _ _ => (pe_tup (pa_cons (pe_op op_add (pe_g G_data_start (hr.mono (by omega)) pass0 (pa_cons (pv 9) pa_nil)) (pv 21)) (pa_cons (pe_op op_and (pe_op op_shr (pe_ix (ix_list : IxR _ (rIxL K)) (pv 3) (pe_op op_fdiv (pv 21) pe_int) (fun _ _ => rfl)) (pe_op op_mul pe_int (pe_op op_mod (pv 21) pe_int))) pe_int) pa_nil))))) pa_nil)))
      (pss_cons (ps_expr (pe_bm PySem.F.plainAttrs_dict PySem.F.slot_dict_update PySem.F.type_dict_update Ki.mt_upd (pv 10) (pa_cons (pe_callTy (call_dictP rfl) (by rfl) T.n_dict (by decide +kernel) (pa_cons (pe_lc (own := [("at", 21)]) (g := gName 21) (by rfl) sc.nd (pi_range1 rfl T.n_range (pa_cons (pv 6) pa_nil)) (blkOk_by (own := [("at", 21)]) (N := ["script", "draw", "sizes", "words", "turn", "many", "stack", "base", "row", "image", "held", "places", "size", "bytes_told", "machine", "name", "offset", "goal", "word", "late", "address", "at", "found", "byte", "step"]) (sc := defScope s_law) (by decide +kernel)) (fun _ _ _ _ _ => (pg_name (i := 21) sc.nd rfl (Or.inl rfl))) (fun _ _ _ _ _ => pts_nil) (fun _ _ _ _ _ => (pe_tup (pa_cons (pe_op op_add (pe_g G_stack_start (hr.mono (by omega)) pass0 (pa_cons (pv 9) pa_nil)) (pv 21)) (pa_cons pe_int pa_nil))))) pa_nil)) pa_nil)))
      (pss_cons (ps_set (i := 11) sc.nd rfl (Or.inl rfl) (pe_op op_cat (pe_callB (call_sortedDI rfl) (by rfl) T.n_sorted (by decide +kernel) (pa_cons (pv 10) pa_nil)) (pe_lst (pa_cons (pe_op op_sub (pe_g G_data_start (hr.mono (by omega)) pass0 (pa_cons (pv 9) pa_nil)) pe_int) (pa_cons (pe_op op_sub (pe_g G_data_start (hr.mono (by omega)) pass0 (pa_cons (pv 9) pa_nil)) pe_int) (pa_cons (pv 7) (pa_cons pe_int (pa_cons pe_int (pa_cons (pe_op op_add (pe_g G_stack_start (hr.mono (by omega)) pass0 (pa_cons (pv 9) pa_nil)) (pv 6)) (pa_cons (pe_op op_add (pe_g G_data_start (hr.mono (by omega)) pass0 (pa_cons (pv 9) pa_nil)) (pe_op op_mul pe_int (pv 5))) pa_nil))))))))))
      ht))), fun i D σ Hq hi hD p => ?_⟩
  obtain ⟨d, s0, zD, W, im, ms, dat, q, r, n, off, o, v4, v8, v10, v11, v12, v13, v14, v17, v18, v19, v20, v21, v22, rfl, C, N, n0, n1, ho, f0, f1, iM⟩ := p
  obtain ⟨⟨wa, da, pl, tr, ia, ta⟩, ok⟩ := id iM
  have l0 := N.l0
  have l1 := N.l1
  refine ⟨_, rfl, _, _, rfl, rfl, Or.inl ⟨by decide, by decide⟩, 4 * (dat.length : Int), rfl, by omega, by omega, fun D1 hD1 => ?_⟩
  refine lc_range (n := (4 * (dat.length : Int)).toNat) (fun i H' => Same Hq H' ∧ PrAt K H' D1 (DS r) (fun i => cellB dat (i : Int)) i) ⟨same_new hD1, PrAt.nil upd_same⟩ ?_ ?_
  · rintro j H2 hj ⟨sq, pr⟩
    refine ⟨rfl, ?_⟩
    dsimp only [tYes]
    rw [if_pos rfl]
    refine ⟨_, rfl, _, rfl, im, wa, da, pl, tr, _, _, _, _, _, rfl, ia.same sq, _, rfl, _, _, rfl, rfl, ?_⟩
    have hix : ((0 + (j : Int)) / 4).toNat < dat.length := by omega
    refine ⟨_, rfl, _, rfl, _, _, rfl, rfl, ⟨by decide, by decide⟩, W, _, _, .int (dat.getD ((0 + (j : Int)) / 4).toNat 0), rfl, rfl, SqL.of (sq _ _ C.hw), list_at (by omega) (by omega), ?_⟩
    refine ⟨_, rfl, _, _, rfl, rfl, (by show (0 : Int) < 4; decide), _, _, rfl, rfl, Or.inl ⟨by decide, by decide⟩, _, _, rfl, rfl, (by show 0 ≤ 8 * ((0 + (j : Int)) % 4); omega), _, _, rfl, rfl, (by show 2 ≤ sizeLine; decide), fun p hp => ?_⟩
    have ev : bitAnd (dat.getD ((0 + (j : Int)) / 4).toNat 0 / 2 ^ (8 * ((0 + (j : Int)) % 4)).toNat) 255 = cellB dat (j : Int) := by rw [B6.m8, show 0 + (j : Int) = (j : Int) by omega]; rfl
    have et : upd H2 p (.tup [.int (DS r + (0 + (j : Int))), .int (bitAnd (dat.getD ((0 + (j : Int)) / 4).toNat 0 / 2 ^ (8 * ((0 + (j : Int)) % 4)).toNat) 255)]) p = some (.tup [.int (DS r + (j : Int)), .int (cellB dat (j : Int))]) := by rw [upd_same, ev, show 0 + (j : Int) = (j : Int) by omega]
    obtain ⟨acc, a1, a2, a3⟩ := (pr.same (same_new hp)).snoc et
    refine ⟨acc, a1, tup_lt (by omega), fun x u e => ?_, a3⟩
    rw [upd_ne (ne_of_none e hD1)]
    exact same_new hp _ _ (sq _ _ e)
  rintro H2 ⟨sq, ps, p1, p2, p3⟩
  refine ⟨D1, ps, _, rfl, SqL.of p2, p3, fun hA hhA => ?_⟩
  have M1 := MD.nil.run (DS r) (fun i => cellB dat (i : Int)) (4 * (dat.length : Int)).toNat
  have s2 := Same.tr sq (same_new (o := .dK (mergeK [] (runK (DS r) (fun i => cellB dat (i : Int)) (4 * (dat.length : Int)).toNat))) hhA)
  have eA : upd H2 hA (.dK (mergeK [] (runK (DS r) (fun i => cellB dat (i : Int)) (4 * (dat.length : Int)).toNat))) hA = some (.dK (mergeK [] (runK (DS r) (fun i => cellB dat (i : Int)) (4 * (dat.length : Int)).toNat))) := upd_same
  have nA : ∀ b ob, Hq b = some ob → b ≠ hA := fun b ob e => ne_of_none (sq _ _ e) hhA
  clear hhA p1 p2 p3 sq hD1
  generalize upd H2 hA (.dK (mergeK [] (runK (DS r) (fun i => cellB dat (i : Int)) (4 * (dat.length : Int)).toNat))) = A1 at s2 eA ⊢
  generalize mergeK [] (runK (DS r) (fun i => cellB dat (i : Int)) (4 * (dat.length : Int)).toNat) = k1 at M1 eA
  refine ⟨_, rfl, Or.inr (Or.inr (Or.inl ⟨rfl, Or.inl ⟨_, eA⟩⟩)), ?_⟩
  have q0 := N.q0
  have q1 := N.q1
  refine ⟨_, rfl, 16 * q, rfl, by omega, by omega, fun D2 hD2 => ?_⟩
  refine lc_range (n := (16 * q).toNat) (fun i H' => Same A1 H' ∧ PrAt K H' D2 (SS dat r) (fun _ => 0) i) ⟨same_new hD2, PrAt.nil upd_same⟩ ?_ ?_
  · rintro j H3 hj ⟨sq, pr⟩
    refine ⟨rfl, ?_⟩
    dsimp only [tYes]
    rw [if_pos rfl]
    refine ⟨_, rfl, _, rfl, im, wa, da, pl, tr, _, _, _, _, _, rfl, (ia.same s2).same sq, _, rfl, _, _, rfl, rfl, (by show 2 ≤ sizeLine; decide), fun p hp => ?_⟩
    have es : bh (bh (16 * r + 4 * (([wrd (cdM o off), wrd (cdM o off), wrd (cdM o off)] : List Int).length : Int)) + 4 * ((dat.map V.int).length : Int)) = SS dat r := by rw [List.length_map]; rfl
    have et : upd H3 p (.tup [.int (bh (bh (16 * r + 4 * (([wrd (cdM o off), wrd (cdM o off), wrd (cdM o off)] : List Int).length : Int)) + 4 * ((dat.map V.int).length : Int)) + (0 + (j : Int))), .int 0]) p = some (.tup [.int (SS dat r + (j : Int)), .int 0]) := by rw [upd_same, es, show 0 + (j : Int) = (j : Int) by omega]
    obtain ⟨acc, a1, a2, a3⟩ := (pr.same (same_new hp)).snoc et
    refine ⟨acc, a1, tup_lt (by omega), fun x u e => ?_, a3⟩
    rw [upd_ne (ne_of_none e hD2)]
    exact same_new hp _ _ (sq _ _ e)
  rintro H3 ⟨sq, ps, p1, p2, p3⟩
  refine ⟨D2, ps, _, rfl, SqL.of p2, p3, fun hB hhB => ?_⟩
  have M2 := MD.nil.run (SS dat r) (fun _ => 0) (16 * q).toNat
  have M3 := M1.run (SS dat r) (fun _ => 0) (16 * q).toNat
  have hk : mergeK [] (runK (SS dat r) (fun _ => 0) (16 * q).toNat) = runK (SS dat r) (fun _ => 0) (16 * q).toNat := merge_run _ _ _
  rw [hk]
  have s3 := Same.tr sq (same_new (o := .dK (runK (SS dat r) (fun _ => 0) (16 * q).toNat)) hhB)
  have neAB : hA ≠ hB := ne_of_none (sq _ _ eA) hhB
  have lk1 := M1.len
  have lk2 := runK_len (SS dat r) (fun _ => 0) (16 * q).toNat
  refine ⟨hA, hB, k1, _, rfl, rfl, neAB, s3 _ _ eA, upd_same, Nat.le_of_lt (tup_lt (by omega)), ?_⟩
  have sF : ∀ b ob, Hq b = some ob → upd (upd H3 hB (.dK (runK (SS dat r) (fun _ => 0) (16 * q).toNat))) hA (.dK (mergeK k1 (runK (SS dat r) (fun _ => 0) (16 * q).toNat))) b = some ob := fun b ob e => by rw [upd_ne (nA b ob e)]; exact s3 _ _ (s2 _ _ e)
  have eF : upd (upd H3 hB (.dK (runK (SS dat r) (fun _ => 0) (16 * q).toNat))) hA (.dK (mergeK k1 (runK (SS dat r) (fun _ => 0) (16 * q).toNat))) hA = some (.dK (mergeK k1 (runK (SS dat r) (fun _ => 0) (16 * q).toNat))) := upd_same
  generalize upd (upd H3 hB (.dK (runK (SS dat r) (fun _ => 0) (16 * q).toNat))) hA (.dK (mergeK k1 (runK (SS dat r) (fun _ => 0) (16 * q).toNat))) = A4 at sF eF ⊢
  generalize mergeK k1 (runK (SS dat r) (fun _ => 0) (16 * q).toNat) = kvs at M3 eF
  have M : MD kvs (heldF dat q r) 56 := M3.congr (fun k => by unfold heldF; rw [show (4 * (dat.length : Int)).toNat = 4 * dat.length by omega]) (by omega)
  clear M1 M2 M3 s3 eA s2 sq p1 p2 p3 hhB hD2 hk nA neAB lk1 lk2
  replace C := C.same sF
  replace iM := iM.same sF
  replace ia := ia.same sF
  obtain ⟨ks, m1, m2, m3⟩ := M.ks
  refine ⟨_, rfl, hA, kvs, ks, rfl, .inl eF, m1, by omega, fun ys S hperm _ hS => ?_⟩
  have sS := same_new (o := .lst (ys.map V.int)) hS
  have eS : upd A4 S (.lst (ys.map V.int)) S = some (.lst (ys.map V.int)) := upd_same
  replace C := C.same sS
  replace iM := iM.same sS
  replace ia := ia.same sS
  replace eF := sS _ _ eF
  clear sS hS sF
  generalize upd A4 S (.lst (ys.map V.int)) = A5 at C iM ia eF eS ⊢
  have ed : bh (16 * r + 4 * (([wrd (cdM o off), wrd (cdM o off), wrd (cdM o off)] : List Int).length : Int)) = DS r := rfl
  have es : bh (bh (16 * r + 4 * (([wrd (cdM o off), wrd (cdM o off), wrd (cdM o off)] : List Int).length : Int)) + 4 * ((dat.map V.int).length : Int)) = SS dat r := by rw [List.length_map]; rfl
  refine ⟨_, rfl, _, rfl, im, wa, da, pl, tr, _, _, _, _, _, rfl, ia, _, _, rfl, rfl, ?_⟩
  refine ⟨_, rfl, _, rfl, im, wa, da, pl, tr, _, _, _, _, _, rfl, ia, _, _, rfl, rfl, ?_⟩
  refine ⟨_, rfl, _, rfl, _, rfl, im, wa, da, pl, tr, _, _, _, _, _, rfl, ia, _, rfl, _, _, rfl, rfl, ?_⟩
  refine ⟨_, rfl, _, rfl, im, wa, da, pl, tr, _, _, _, _, _, rfl, ia, _, rfl, _, _, rfl, rfl, Or.inl ⟨by decide, by decide⟩, _, _, rfl, rfl, (by show 7 ≤ sizeLine; decide), fun L7 hL7 => ?_⟩
  have L7e : upd A5 L7 (.lst [.int (bh (16 * r + 4 * (([wrd (cdM o off), wrd (cdM o off), wrd (cdM o off)] : List Int).length : Int)) - 1), .int (bh (16 * r + 4 * (([wrd (cdM o off), wrd (cdM o off), wrd (cdM o off)] : List Int).length : Int)) - 4), .int (16 * r), .int 0, .int 4294967292, .int (bh (bh (16 * r + 4 * (([wrd (cdM o off), wrd (cdM o off), wrd (cdM o off)] : List Int).length : Int)) + 4 * ((dat.map V.int).length : Int)) + 16 * q), .int (bh (16 * r + 4 * (([wrd (cdM o off), wrd (cdM o off), wrd (cdM o off)] : List Int).length : Int)) + 4 * (dat.length : Int))]) L7 = some (.lst (([DS r - 1, DS r - 4, 16 * r, 0, 4294967292, SS dat r + 16 * q, DS r + 4 * (dat.length : Int)] : List Int).map V.int)) := by rw [upd_same, ed, ← es, ed]; rfl
  have yl : ys.length ≤ 60 := by have := hperm.length_eq; omega
  have s7 := same_new (o := .lst [.int (bh (16 * r + 4 * (([wrd (cdM o off), wrd (cdM o off), wrd (cdM o off)] : List Int).length : Int)) - 1), .int (bh (16 * r + 4 * (([wrd (cdM o off), wrd (cdM o off), wrd (cdM o off)] : List Int).length : Int)) - 4), .int (16 * r), .int 0, .int 4294967292, .int (bh (bh (16 * r + 4 * (([wrd (cdM o off), wrd (cdM o off), wrd (cdM o off)] : List Int).length : Int)) + 4 * ((dat.map V.int).length : Int)) + 16 * q), .int (bh (16 * r + 4 * (([wrd (cdM o off), wrd (cdM o off), wrd (cdM o off)] : List Int).length : Int)) + 4 * (dat.length : Int))]) hL7
  refine ⟨S, L7, _, _, rfl, rfl, s7 _ _ eS, L7e, (by rw [List.length_map]; show ys.length + 7 ≤ sizeLine; exact Nat.le_of_lt (tup_lt (by omega))), fun L hL => ?_⟩
  rw [← List.map_append]
  have s8 := Same.tr s7 (same_new (o := .lst ((ys ++ [DS r - 1, DS r - 4, 16 * r, 0, 4294967292, SS dat r + 16 * q, DS r + 4 * (dat.length : Int)]).map V.int)) hL)
  have nL : L ≠ d := (ne_of_none (s7 _ _ C.hd) hL).symm
  have dr := ds_rng N.r0 N.r1
  have sr := ss_rng N
  refine hq i D _ _ hi hD ⟨d, s0, zD, W, im, hA, L, ms, dat, ys ++ [DS r - 1, DS r - 4, 16 * r, 0, 4294967292, SS dat r + 16 * q, DS r + 4 * (dat.length : Int)], kvs, q, r, n, off, o, _, _, _, _, _, _, _, _, _, _, _, rfl, C.same s8, N, n0, n1, ho, f0, f1, iM.same s8, s8 _ _ eF, M, upd_same, nL, by simp, fun v hv => ?_⟩
  have r0 := N.r0
  have r1 := N.r1
  rcases List.mem_append.mp hv with hv | hv
  · exact held_rng N ((m3 v).mp (hperm.mem_iff.mp hv))
  · simp only [List.mem_cons, List.not_mem_nil, or_false] at hv
    rcases hv with rfl | rfl | rfl | rfl | rfl | rfl | rfl <;> omega
theorem law_cB3 (T : Txt K mg w) (G__law_next : Gd P w K mg base CX0 3 "_law_next" ["draw", "bound"] (sp__law_next K)) (G__law_pick : Gd P w K mg base CX0 4 "_law_pick" ["draw", "things"] (sp__law_pick K)) (G__law_image : Gd P w K mg base CX0 5 "_law_image" ["rows", "words", "stack", "base"] (sp__law_image K)) (G_data_start : Gd P w K mg base CX0 2 "data_start" ["image"] (sp_data_start K)) (G_stack_start : Gd P w K mg base CX0 3 "stack_start" ["image"] (sp_stack_start K)) (G_Processor___init__ : Gm P w K mg base CX0 6 (He.ga K "Processor") "__init__" ["self", "image", "inputs"] (sp_Processor___init__ K)) (G_ReadyMachine___init__ : Gm P w K mg base CX0 7 (He.ga K "ReadyMachine") "__init__" ["self", "image", "inputs"] (sp_ReadyMachine___init__ K)) (G_Machine_step : Gm P w K mg base CX0 5 (He.ga K "Machine") "step" ["self"] (sp_Machine_step K)) (G_ReadyMachine_step : Gm P w K mg base CX0 5 (He.ga K "ReadyMachine") "step" ["self"] (sp_ReadyMachine_step K)) (G_Machine_field_at : Gm P w K mg base CX0 2 (He.ga K "Machine") "field_at" ["self", "address"] (sp_Machine_field_at K)) (G_ReadyMachine_field_at : Gm P w K mg base CX0 2 (He.ga K "ReadyMachine") "field_at" ["self", "address"] (sp_ReadyMachine_field_at K)) {f : Addr} {cdv : Value} {A : Around} {outer : List Env} {s : Shared} {H : Hp} {Q : VK} {E : XK} (hr : Room 8 (A.deeper (envOfC ("law" : Str) (defScope s_law) s.heap.objs.size f cdv))) (sl : Addr) (c : ∃ t, PSs ((cxOf CX0 P w K mg base ["script", "draw", "sizes", "words", "turn", "many", "stack", "base", "row", "image", "held", "places", "size", "bytes_told", "machine", "name", "offset", "goal", "word", "late", "address", "at", "found", "byte", "step"] ("law" : Str) (defScope s_law) f cdv A outer s H E).nox) (turnB.drop 9) t ∧ ∀ (i : Nat) (D : L2.Ends) σ H1, i < 24 → (∀ σ' H', PT K (i + 1) sl σ' H' → D.nx σ' H') → PB3 K i sl σ H1 → t D σ H1) : ∃ t, PSs ((cxOf CX0 P w K mg base ["script", "draw", "sizes", "words", "turn", "many", "stack", "base", "row", "image", "held", "places", "size", "bytes_told", "machine", "name", "offset", "goal", "word", "late", "address", "at", "found", "byte", "step"] ("law" : Str) (defScope s_law) f cdv A outer s H E).nox) (turnB.drop 6) t ∧ ∀ (i : Nat) (D : L2.Ends) σ H1, i < 24 → (∀ σ' H', PT K (i + 1) sl σ' H' → D.nx σ' H') → PB2 K i sl σ H1 → t D σ H1 := by
  have sc := sc_law
  obtain ⟨tt, ht, hq⟩ := c
  refine ⟨_, (pss_cons (ps_asg (pe_tup (pa_cons (pe_g G__law_pick (hr.mono (by omega)) pass0 (pa_cons (pv 1) (pa_cons (pv 11) pa_nil))) (pa_cons (pe_op op_add (pe_op op_mul (pe_g G__law_next (hr.mono (by omega)) pass0 (pa_cons (pv 1) (pa_cons pe_int pa_nil))) pe_int) (pe_g G__law_next (hr.mono (by omega)) pass0 (pa_cons (pv 1) (pa_cons pe_int pa_nil)))) pa_nil))) (pg_tup rfl (pgs_cons (pg_name (i := 17) sc.nd rfl (Or.inr rfl)) (pgs_cons (pg_name (i := 18) sc.nd rfl (Or.inr rfl)) pgs_nil))))
      (pss_cons (ps_set (i := 12) sc.nd rfl (Or.inl rfl) (pe_dget (hu_of hr) (pv 2) (pv 15) (fun _ _ => rfl)))
      (pss_cons (ps_setLc (i := 13) (own := [("at", 21)]) (g := gName 21) (by rfl) sc.nd rfl rfl (sw_true rfl rfl rfl (by decide +kernel)) (pi_range1 rfl T.n_range (pa_cons (pv 12) pa_nil)) (blkOk_by (own := [("at", 21)]) (N := ["script", "draw", "sizes", "words", "turn", "many", "stack", "base", "row", "image", "held", "places", "size", "bytes_told", "machine", "name", "offset", "goal", "word", "late", "address", "at", "found", "byte", "step"]) (sc := defScope s_law) (by decide +kernel)) (fun _ _ _ _ _ => (pg_name (i := 21) sc.nd rfl (Or.inl rfl))) (fun _ _ _ _ _ => pts_nil) (fun _ _ _ _ _ => (pe_dget1 (hu_of hr) (pv 10) (pe_op op_add (pv 17) (pv 21)) ⟨rfl, rfl, rfl, rfl⟩)))
      ht))), fun i D σ Hq hi hD p => ?_⟩
  obtain ⟨d, s0, zD, W, im, hA, L, ms, dat, pvs, kvs, q, r, n, off, o, v4, v8, v12, v13, v14, v17, v18, v19, v20, v21, v22, rfl, C, N, n0, n1, ho, f0, f1, iM, eA, M, eL, nL, pn, pr⟩ := p
  have nA : hA ≠ d := ne_of eA C.hd (fun z => by cases z)
  refine ⟨_, rfl, _, rfl, _, _, rfl, d, s0, ms, n, L, pvs.map V.int, rfl, rfl, C.hd, C.hs, n0, by omega, eL, nL, (by simpa using pn), fun v H2 hv b2 e2 => ?_⟩
  obtain ⟨goal, hg, rfl⟩ := List.mem_map.mp hv
  have gr := pr goal hg
  replace iM := iM.butd b2 C.hd
  replace eA := b2 _ _ eA (by simpa using nA)
  replace C := C.draw b2 e2
  clear b2 e2 hv hg eL nL pn pr
  refine ⟨_, rfl, _, _, rfl, d, s0, ms, n + 1, 999983, rfl, rfl, C.hd, C.hs, by omega, by omega, by decide, fun a H3 a0 a1 b2 e2 => ?_⟩
  replace iM := iM.butd b2 C.hd
  replace eA := b2 _ _ eA (by simpa using nA)
  replace C := C.draw b2 e2
  clear b2 e2
  refine ⟨_, _, rfl, rfl, Or.inr ⟨by decide, by decide⟩, ?_⟩
  refine ⟨_, rfl, _, _, rfl, d, s0, ms, n + 1 + 1, 999, rfl, rfl, C.hd, C.hs, by omega, by omega, by decide, fun b H4 b0 b1 b2 e2 => ?_⟩
  replace iM := iM.butd b2 C.hd
  replace eA := b2 _ _ eA (by simpa using nA)
  replace C := C.draw b2 e2
  clear b2 e2
  refine ⟨_, _, rfl, rfl, (by show 2 ≤ sizeLine; decide), fun p hp => ?_⟩
  have s1 := same_new (o := .tup [.int goal, .int (a * 4294 + b)]) hp
  have ep : upd H4 p (.tup [.int goal, .int (a * 4294 + b)]) p = some (.tup [.int goal, .int (a * 4294 + b)]) := upd_same
  replace C := C.same s1
  replace iM := iM.same s1
  replace eA := s1 _ _ eA
  clear s1 hp
  generalize upd H4 p (.tup [.int goal, .int (a * 4294 + b)]) = A5 at C iM eA ep ⊢
  have hm := many_of ho
  have hm4 : 1 ≤ szM o ∧ szM o ≤ 4 := by rcases hm with z | z | z <;> rw [z] <;> decide
  refine ⟨p, _, rfl, SqT.of ep, rfl, _, _, rfl, _, _, rfl, rfl, ?_⟩
  refine ⟨_, rfl, _, rfl, zD, .int (szM o), rfl, .inl ⟨sizesK, .inr (nm o), .inl C.hz, rfl, (size_at ho).symm⟩, ?_⟩
  refine ⟨_, rfl, szM o, rfl, by omega, by omega, fun BL hBL => ?_⟩
  refine lc_range (n := (szM o).toNat) (fun i H' => Same A5 H' ∧ H' BL = some (.lst ((List.range i).map (bvM (heldF dat q r) goal)))) ⟨same_new hBL, upd_same⟩ ?_ ?_
  · rintro j H6 hj ⟨sq, pr⟩
    refine ⟨rfl, ?_⟩
    dsimp only [tYes]
    rw [if_pos rfl]
    refine ⟨_, rfl, hA, rfl, Or.inl ⟨_, .inl (sq _ _ eA)⟩, _, rfl, _, rfl, _, _, rfl, rfl, (heldF dat q r (goal + (0 + (j : Int)))).map V.int, .inl ⟨kvs, .inl (goal + (0 + (j : Int))), .inl (sq _ _ eA), rfl, (M.v _).symm⟩, ?_⟩
    refine ⟨_, pr, (by rw [List.length_map, List.length_range]; exact tup_lt (by omega)), fun x u e => ?_, ?_⟩
    · rw [upd_ne (ne_of_none e hBL)]; exact sq _ _ e
    · rw [upd_same, List.range_succ, List.map_append]
      show some (HO.lst (_ ++ [((heldF dat q r (goal + (0 + (j : Int)))).map V.int).getD .non])) = _
      rw [show goal + (0 + (j : Int)) = goal + (j : Int) by omega]; rfl
  rintro H6 ⟨sq, pr⟩
  exact hq i D _ _ hi hD ⟨d, s0, zD, W, im, hA, BL, ms, dat, kvs, q, r, n + 1 + 1 + 1, off, goal, a * 4294 + b, o, _, _, _, _, _, _, _, _, rfl, C.same sq, N, by omega, by omega, ho, f0, f1, iM.same sq, sq _ _ eA, M, pr, gr, by omega, by omega⟩
theorem law_cM (T : Txt K mg w) (G__law_next : Gd P w K mg base CX0 3 "_law_next" ["draw", "bound"] (sp__law_next K)) (G__law_pick : Gd P w K mg base CX0 4 "_law_pick" ["draw", "things"] (sp__law_pick K)) (G__law_image : Gd P w K mg base CX0 5 "_law_image" ["rows", "words", "stack", "base"] (sp__law_image K)) (G_data_start : Gd P w K mg base CX0 2 "data_start" ["image"] (sp_data_start K)) (G_stack_start : Gd P w K mg base CX0 3 "stack_start" ["image"] (sp_stack_start K)) (G_Processor___init__ : Gm P w K mg base CX0 6 (He.ga K "Processor") "__init__" ["self", "image", "inputs"] (sp_Processor___init__ K)) (G_ReadyMachine___init__ : Gm P w K mg base CX0 7 (He.ga K "ReadyMachine") "__init__" ["self", "image", "inputs"] (sp_ReadyMachine___init__ K)) (G_Machine_step : Gm P w K mg base CX0 5 (He.ga K "Machine") "step" ["self"] (sp_Machine_step K)) (G_ReadyMachine_step : Gm P w K mg base CX0 5 (He.ga K "ReadyMachine") "step" ["self"] (sp_ReadyMachine_step K)) (G_Machine_field_at : Gm P w K mg base CX0 2 (He.ga K "Machine") "field_at" ["self", "address"] (sp_Machine_field_at K)) (G_ReadyMachine_field_at : Gm P w K mg base CX0 2 (He.ga K "ReadyMachine") "field_at" ["self", "address"] (sp_ReadyMachine_field_at K)) {f : Addr} {cdv : Value} {A : Around} {outer : List Env} {s : Shared} {H : Hp} {Q : VK} {E : XK} (hr : Room 8 (A.deeper (envOfC ("law" : Str) (defScope s_law) s.heap.objs.size f cdv))) (sl : Addr) (cm : ∃ t, PSs ((cxOf CX0 P w K mg base ["script", "draw", "sizes", "words", "turn", "many", "stack", "base", "row", "image", "held", "places", "size", "bytes_told", "machine", "name", "offset", "goal", "word", "late", "address", "at", "found", "byte", "step"] ("law" : Str) (defScope s_law) f cdv A outer s H E).nox) machB t ∧ ∀ (D : L2.Ends) σ H1, PM K sl D σ H1 → t D σ H1) : ∃ t, PSs ((cxOf CX0 P w K mg base ["script", "draw", "sizes", "words", "turn", "many", "stack", "base", "row", "image", "held", "places", "size", "bytes_told", "machine", "name", "offset", "goal", "word", "late", "address", "at", "found", "byte", "step"] ("law" : Str) (defScope s_law) f cdv A outer s H E).nox) (turnB.drop 9) t ∧ ∀ (i : Nat) (D : L2.Ends) σ H1, i < 24 → (∀ σ' H', PT K (i + 1) sl σ' H' → D.nx σ' H') → PB3 K i sl σ H1 → t D σ H1 := by
  have sc := sc_law
  obtain ⟨tm, hm, hqm⟩ := cm
  refine ⟨_, (pss_one (ps_for PassesOwn.never rfl (pi_list (pe_lst (pa_cons (pe_mkG (Mh.Gm.heir G_Processor___init__ T.hi_Machine_init) T.mk_Machine T.cl_Machine.g (hr.mono (by omega)) pass0 (pa_cons (pv 9) (pa_cons (pe_lst pa_nil) pa_nil))) (pa_cons (pe_mkG G_ReadyMachine___init__ T.mk_ReadyMachine T.cl_ReadyMachine.g (hr.mono (by omega)) pass0 (pa_cons (pv 9) (pa_cons (pe_lst pa_nil) pa_nil))) pa_nil)))) (pg_name (i := 14) sc.nd rfl (Or.inl rfl)) hm)), fun i D σ Hq hi hD p => ?_⟩
  obtain ⟨d, s0, zD, W, im, hA, BL, ms, dat, kvs, q, r, n, off, goal, word, o, v4, v8, v11, v14, v19, v20, v21, v22, rfl, C, N, n0, n1, ho, f0, f1, iM, eA, M, eB, gr, wr⟩ := p
  obtain ⟨⟨wa, da, pl, tr, ia, ta⟩, ok⟩ := id iM
  have okc := okC_law ok N.r0
  have q0 := N.q0
  have q1 := N.q1
  have sB : Same Hq Hq := Same.rf
  refine ⟨_, rfl, (by show 0 ≤ sizeLine; decide), fun l1 hl1 x1 dx1 hx1 hz1 nd1 => ?_⟩
  have sL1 : Same Hq (upd Hq l1 (.lst [])) := same_new hl1
  have t1 := same2 (o1 := .own x1) (o2 := .ins (CM K) dx1 []) hx1 hz1 nd1
  refine ⟨_, _, _, rfl, x1, CM K, dx1, im, wa, da, pl, tr, l1, [wrd (cdM o off), wrd (cdM o off), wrd (cdM o off)], dat.map V.int, _, 16 * q, 16 * r, _, _, rfl, rfl, rfl, Or.inl rfl, upd_same, SqL.of (t1 _ _ upd_same), by omega, by omega, ((ia.same sB).same sL1).same t1, ((ta.same sB).same sL1).same t1, ⟨(fun v hv => (okc.ws v hv).1), by show 3 ≤ 1000; decide⟩, fun C1 m1 mm1 c1 e1 N1 hn1 fa1 fb1 fc1 => ⟨rfl, ?_⟩⟩
  have sm1 : Same Hq C1 := Same.tr sL1 (new_obj hx1 hz1 nd1 c1)
  have im1 := (((ia.same sB).same sL1).same t1).but c1 upd_same
  replace sB := Same.tr sB sm1
  refine ⟨_, rfl, (by show 0 ≤ sizeLine; decide), fun l2 hl2 x2 dx2 hx2 hz2 nd2 => ?_⟩
  have sL2 : Same C1 (upd C1 l2 (.lst [])) := same_new hl2
  have t2 := same2 (o1 := .own x2) (o2 := .ins (CR K) dx2 []) hx2 hz2 nd2
  refine ⟨_, _, _, rfl, x2, CR K, dx2, im, wa, da, pl, tr, l2, [wrd (cdM o off), wrd (cdM o off), wrd (cdM o off)], dat.map V.int, _, 16 * q, 16 * r, _, _, rfl, rfl, rfl, rfl, upd_same, SqL.of (t2 _ _ upd_same), by omega, by omega, ((ia.same sB).same sL2).same t2, ((ta.same sB).same sL2).same t2, ⟨(fun v hv => (okc.ws v hv).1), by show 3 ≤ 1000; decide⟩, fun C2 m2 mm2 c2 e2 N2 hn2 fa2 fb2 fc2 => ⟨rfl, ?_⟩⟩
  have sm2 : Same C1 C2 := Same.tr sL2 (new_obj hx2 hz2 nd2 c2)
  have im2 := (((ia.same sB).same sL2).same t2).but c2 upd_same
  replace sB := Same.tr sB sm2
  have S1 := N1.ms (c := ⟨[wrd (cdM o off), wrd (cdM o off), wrd (cdM o off)], 16 * r⟩) (Or.inl rfl) e1 (Or.inl hn1) im1 (fun z => absurd z T.ne_cls)
  have xo2 : xsOk m2.xs := by
    obtain ⟨l, vs, z, _⟩ := hn2
    exact Or.inr ⟨l, z⟩
  have S2 := N2.ms (c := ⟨[wrd (cdM o off), wrd (cdM o off), wrd (cdM o off)], 16 * r⟩) (Or.inr rfl) e2 xo2 im2 (fun _ => hn2)
  refine ⟨(by show 2 ≤ sizeLine; decide), fun ML hML => ?_⟩
  have s3 := same_new (o := .lst [.ref x1, .ref x2]) hML
  have eM : upd C2 ML (.lst [.ref x1, .ref x2]) ML = some (.lst [.ref x1, .ref x2]) := upd_same
  have S1' := (S1.same sm2)
  have nx : x2 ≠ x1 := (ne_of_none (sL2 _ _ e1) hx2).symm
  have n_rg : m2.rg ≠ m1.rg ∧ m2.rg ≠ mm1.da ∧ m2.rg ≠ mm1.sa := ⟨(ne_of_none (t2 _ _ (sL2 _ _ S1.M.rg)) fa2).symm, (ne_of_none (t2 _ _ (sL2 _ _ S1.da)) fa2).symm, (ne_of_none (t2 _ _ (sL2 _ _ S1.sa)) fa2).symm⟩
  have n_da : mm2.da ≠ m1.rg ∧ mm2.da ≠ mm1.da ∧ mm2.da ≠ mm1.sa := ⟨(ne_of_none (t2 _ _ (sL2 _ _ S1.M.rg)) fb2).symm, (ne_of_none (t2 _ _ (sL2 _ _ S1.da)) fb2).symm, (ne_of_none (t2 _ _ (sL2 _ _ S1.sa)) fb2).symm⟩
  have n_sa : mm2.sa ≠ m1.rg ∧ mm2.sa ≠ mm1.da ∧ mm2.sa ≠ mm1.sa := ⟨(ne_of_none (t2 _ _ (sL2 _ _ S1.M.rg)) fc2).symm, (ne_of_none (t2 _ _ (sL2 _ _ S1.da)) fc2).symm, (ne_of_none (t2 _ _ (sL2 _ _ S1.sa)) fc2).symm⟩
  have k1 : Hq x1 = none ∧ Hq m1.rg = none ∧ Hq mm1.da = none ∧ Hq mm1.sa = none := ⟨none_back sL1 hx1, none_back (Same.tr sL1 t1) fa1, none_back (Same.tr sL1 t1) fb1, none_back (Same.tr sL1 t1) fc1⟩
  have k2 : Hq x2 = none ∧ Hq m2.rg = none ∧ Hq mm2.da = none ∧ Hq mm2.sa = none := ⟨none_back (Same.tr sm1 sL2) hx2, none_back (Same.tr sm1 (Same.tr sL2 t2)) fa2, none_back (Same.tr sm1 (Same.tr sL2 t2)) fb2, none_back (Same.tr sm1 (Same.tr sL2 t2)) fc2⟩
  have nM1 : ML ≠ x1 ∧ ML ≠ m1.rg ∧ ML ≠ mm1.da ∧ ML ≠ mm1.sa := ⟨(ne_of_none S1'.M.at_ hML).symm, (ne_of_none S1'.M.rg hML).symm, (ne_of_none S1'.da hML).symm, (ne_of_none S1'.sa hML).symm⟩
  have nM2 : ML ≠ x2 ∧ ML ≠ m2.rg ∧ ML ≠ mm2.da ∧ ML ≠ mm2.sa := ⟨(ne_of_none S2.M.at_ hML).symm, (ne_of_none S2.M.rg hML).symm, (ne_of_none S2.da hML).symm, (ne_of_none S2.sa hML).symm⟩
  have Z1 := S1'.same s3
  have Z2 := S2.same s3
  have sZ := Same.tr sB s3
  clear hML s3 S1' S2 S1 im1 im2 e1 e2 c1 c2 hl1 hl2 hx1 hx2 hz1 hz2 t1 t2 sL1 sL2 sm1 sm2 sB fa1 fb1 fc1 fa2 fb2 fc2 xo2 hn1 hn2
  generalize upd C2 ML (.lst [.ref x1, .ref x2]) = Z0 at *
  refine ⟨ML, rfl, ⟨_, SqL.of eM⟩, ?_⟩
  refine for_list (K := K) (a := ML) (xs := [.ref x1, .ref x2]) (fun i' σ H' => (∃ u8 u14 u19 u20 u21 u22 : Option V, σ = [some (.ref sl), some (.ref d), some (.ref zD), some (.ref W), v4, some (.int (dat.length : Int)), some (.int (16 * q)), some (.int (16 * r)), u8, some (.ref im), some (.ref hA), v11, some (.int (szM o)), some (.ref BL), u14, some (.str (nm o)), some (.int off), some (.int goal), some (.int word), u19, u20, u21, u22, none, none]) ∧ Same Hq H' ∧ H' ML = some (.lst [.ref x1, .ref x2]) ∧ (i' = 0 → MS K H' x1 (CM K) dx1 m1 mm1 ⟨[wrd (cdM o off), wrd (cdM o off), wrd (cdM o off)], 16 * r⟩ (s0P (16 * r) dat (16 * q))) ∧ (i' ≤ 1 → MS K H' x2 (CR K) dx2 m2 mm2 ⟨[wrd (cdM o off), wrd (cdM o off), wrd (cdM o off)], 16 * r⟩ (s0P (16 * r) dat (16 * q)))) ⟨⟨_, _, _, _, _, _, rfl⟩, sZ, eM, fun _ => Z1, fun _ => Z2⟩ (fun i' σ H' _ p => SqL.of p.2.2.1) ?_ ?_
  · rintro i' x' σ H2 hx' ⟨⟨u8, u14, u19, u20, u21, u22, rfl⟩, sq, eL, z1, z2⟩
    match i', hx', z1, z2 with
    | 0, hx', z1, z2 =>
      cases hx'
      have Sx := z1 rfl
      refine hqm _ _ _ ⟨d, zD, W, im, hA, BL, x1, CM K, dx1, m1, mm1, dat, kvs, q, r, off, goal, word, o, _, _, _, _, _, _, _, rfl, Sx, N1.okM (by omega) (by omega) (by omega) (by have := N.l1; omega), okW_law N1 N, mem_at N1, N, ho, f0, f1, ok, sq _ _ eA, M, sq _ _ eB, ne_of_none eB k1.2.1, ne_of_none eB k1.2.2.1, ne_of_none eB k1.2.2.2, gr, wr, fun σ' H' hs bt => ?_⟩
      obtain ⟨w8, w19, w20, w21, w22, rfl⟩ := hs
      have sq' := keep_old k1.1 k1.2.1 k1.2.2.1 k1.2.2.2 bt sq
      have eL' := bt _ _ eL (by simp; exact nM1)
      have Sy := (z2 (by decide)).apart Sx bt nx n_rg n_da n_sa (fun w hw => ⟨(cdM o off).1, by have : w = wrd (cdM o off) := (by simpa using hw); rw [this]; exact ok.dec⟩) (by show 0 < 3; decide)
      exact ⟨⟨⟨_, _, _, _, _, _, rfl⟩, sq', eL', fun z => absurd z (by decide), fun _ => Sy⟩, ⟨⟨_, _, _, _, _, _, rfl⟩, sq', eL', fun z => absurd z (by decide), fun _ => Sy⟩⟩
    | 1, hx', z1, z2 =>
      cases hx'
      have Sx := z2 (by decide)
      refine hqm _ _ _ ⟨d, zD, W, im, hA, BL, x2, CR K, dx2, m2, mm2, dat, kvs, q, r, off, goal, word, o, _, _, _, _, _, _, _, rfl, Sx, N2.okM (by omega) (by omega) (by omega) (by have := N.l1; omega), okW_law N2 N, mem_at N2, N, ho, f0, f1, ok, sq _ _ eA, M, sq _ _ eB, ne_of_none eB k2.2.1, ne_of_none eB k2.2.2.1, ne_of_none eB k2.2.2.2, gr, wr, fun σ' H' hs bt => ?_⟩
      obtain ⟨w8, w19, w20, w21, w22, rfl⟩ := hs
      have sq' := keep_old k2.1 k2.2.1 k2.2.2.1 k2.2.2.2 bt sq
      have eL' := bt _ _ eL (by simp; exact nM2)
      exact ⟨⟨⟨_, _, _, _, _, _, rfl⟩, sq', eL', fun z => absurd z (by decide), fun z => absurd z (by decide)⟩, ⟨⟨_, _, _, _, _, _, rfl⟩, sq', eL', fun z => absurd z (by decide), fun z => absurd z (by decide)⟩⟩
    | i' + 2, hx', _, _ => simp at hx'
  · rintro σ H2 ⟨⟨u8, u14, u19, u20, u21, u22, rfl⟩, sq, _, _, _⟩
    exact hD _ _ ⟨d, s0, zD, W, ms, dat, q, r, n, _, _, _, _, _, _, _, _, _, _, _, _, _, _, _, _, rfl, C.same sq, N, n0, by omega, fun _ => ⟨im, cdM o off, rfl, iM.same sq⟩⟩
end
end K82

namespace K82
open PySem PyProof.Rows L2 My Ru I6
open Builtin (bitAnd bitOr)
def sMach (cd : Nat × Int × Int × Int) (dat : List Int) (q r off goal word : Int) : PS := { s0P (16 * r) dat (16 * q) with regs := putR (putR regs0 7 ((goal - off) % 4294967296)) 6 word }
def stM (mm : Mm) (cd : Nat × Int × Int × Int) (dat : List Int) (q r off goal word : Int) : PS := doI mm cd.1 cd.2 (sMach cd dat q r off goal word)
/-- the step is done -/
def PS1 (K : PySem.W.Frag) (sl : Addr) (D : L2.Ends) (σ : L2.St) (H : Hp) : Prop := ∃ (d zD W im hA BL x C dx : Addr) (m : Mc) (mm : Mm) (dat : List Int) (kvs : List (Key × V)) (q r off goal word : Int) (o : Nat) (v4 v8 v11 v19 v20 v21 v22 : Option V), σ = [some (.ref sl), some (.ref d), some (.ref zD), some (.ref W), v4, some (.int (dat.length : Int)), some (.int (16 * q)), some (.int (16 * r)), v8, some (.ref im), some (.ref hA), v11, some (.int (szM o)), some (.ref BL), some (.ref x), some (.str (nm o)), some (.int off), some (.int goal), some (.int word), v19, v20, v21, v22, none, none] ∧
  MS K H x C dx m mm ⟨[wrd (cdM o off), wrd (cdM o off), wrd (cdM o off)], 16 * r⟩ (stM mm (cdM o off) dat q r off goal word) ∧ OkM mm (s0P (16 * r) dat (16 * q)) ∧ OkW mm (s0P (16 * r) dat (16 * q)) ∧ (mm.ds = DS r ∧ mm.ss = SS dat r) ∧ Nm dat q r ∧ isDd o = true ∧ -2048 ≤ off ∧ off ≤ 2047 ∧
  H hA = some (.dK kvs) ∧ MD kvs (heldF dat q r) 56 ∧ H BL = some (.lst (bytesV (heldF dat q r) goal (szM o))) ∧ (0 ≤ goal ∧ goal < 4294967296) ∧ (0 ≤ word ∧ word < 4294967296) ∧
  ∀ (σ' : L2.St) (H' : Hp), (∃ w8 w19 w20 w21 w22 : Option V, σ' = [some (.ref sl), some (.ref d), some (.ref zD), some (.ref W), v4, some (.int (dat.length : Int)), some (.int (16 * q)), some (.int (16 * r)), w8, some (.ref im), some (.ref hA), v11, some (.int (szM o)), some (.ref BL), some (.ref x), some (.str (nm o)), some (.int off), some (.int goal), some (.int word), w19, w20, w21, w22, none, none]) → Same H H' → D.nx σ' H' ∧ D.ct σ' H'
theorem cdM_fst (o : Nat) (off : Int) : (cdM o off).1 = o := by unfold cdM; split <;> rfl
theorem szM_ok {o : Nat} (h : isDd o = true) : many_ok (szM o) := many_of h
def tStepM (K : PySem.W.Frag) : TE := fun σ H Q => My.tMethG (He.ga K "Machine") "step" (sp_Machine_step K) E0 (tVar 14) tNil σ H Q ∨ My.tMethG (He.ga K "ReadyMachine") "step" (sp_ReadyMachine_step K) E0 (tVar 14) tNil σ H Q
theorem step_ofM {K : PySem.W.Frag} {H : Hp} {x C dx : Addr} {m : Mc} {mm : Mm} {c : Cfg} {s : PS} {σ : L2.St} {Q : VK} (S : MS K H x C dx m mm c s) (hσ : σ[14]? = some (some (.ref x))) (okc : OkC c) (oM : OkM mm s) (en : s.en = none) (h : Nx K H x C dx m mm c (stepP c mm s) Q) : tStepM K σ H Q := by
  rcases S.M.cl with rfl | rfl
  · exact Or.inl ⟨_, hσ, x, dx, _, rfl, S.M.at_, lk_step S.M.xo, _, rfl, x, dx, m, mm, c, s, rfl, S, okc, oM, en, h⟩
  · exact Or.inr ⟨_, hσ, x, dx, _, rfl, S.M.at_, lk_step S.M.xo, _, rfl, x, dx, m, mm, c, s, rfl, S, okc, oM, en, h⟩
theorem step_mach {mm : Mm} {cd : Nat × Int × Int × Int} {dat : List Int} {q r off goal word : Int} (ok : CodeOk cd) (h0 : 0 ≤ r) : stepP ⟨[wrd cd, wrd cd, wrd cd], 16 * r⟩ mm (sMach cd dat q r off goal word) = stM mm cd dat q r off goal word := by
  have e : wnO ⟨[wrd cd, wrd cd, wrd cd], 16 * r⟩ (sMach cd dat q r off goal word).pc = some 0 := wn_at (s := sMach cd dat q r off goal word) ⟨by show 0 < 3; decide, by show 16 * r = 16 * r + 4 * ((0 : Nat) : Int); omega⟩ (by show 16 * r % 4 = 0; omega)
  rw [st_op (o := cd.1) e ok.dec]
  show doI mm cd.1 (rd (fo cd.1) (wrd cd)) _ = _
  rw [ok.red]
  rfl
/-- the step went -/
def PS2 (K : PySem.W.Frag) (sl : Addr) (D : L2.Ends) (σ : L2.St) (H : Hp) : Prop := ∃ (d zD W im hA BL x C dx : Addr) (m : Mc) (mm : Mm) (dat : List Int) (kvs : List (Key × V)) (q r off goal word : Int) (o : Nat) (v4 v8 v11 v19 v20 v21 v22 : Option V), σ = [some (.ref sl), some (.ref d), some (.ref zD), some (.ref W), v4, some (.int (dat.length : Int)), some (.int (16 * q)), some (.int (16 * r)), v8, some (.ref im), some (.ref hA), v11, some (.int (szM o)), some (.ref BL), some (.ref x), some (.str (nm o)), some (.int off), some (.int goal), some (.int word), v19, v20, v21, v22, none, none] ∧
  MS K H x C dx m mm ⟨[wrd (cdM o off), wrd (cdM o off), wrd (cdM o off)], 16 * r⟩ (stM mm (cdM o off) dat q r off goal word) ∧ OkM mm (s0P (16 * r) dat (16 * q)) ∧ OkW mm (s0P (16 * r) dat (16 * q)) ∧ (mm.ds = DS r ∧ mm.ss = SS dat r) ∧ Nm dat q r ∧ isDd o = true ∧ -2048 ≤ off ∧ off ≤ 2047 ∧ (∃ (b : Bool) (k : Int), plc mm goal (szM o) = some (b, k)) ∧
  H hA = some (.dK kvs) ∧ MD kvs (heldF dat q r) 56 ∧ H BL = some (.lst (bytesV (heldF dat q r) goal (szM o))) ∧ (0 ≤ goal ∧ goal < 4294967296) ∧ (0 ≤ word ∧ word < 4294967296) ∧
  ∀ (σ' : L2.St) (H' : Hp), (∃ w8 w19 w20 w21 w22 : Option V, σ' = [some (.ref sl), some (.ref d), some (.ref zD), some (.ref W), v4, some (.int (dat.length : Int)), some (.int (16 * q)), some (.int (16 * r)), w8, some (.ref im), some (.ref hA), v11, some (.int (szM o)), some (.ref BL), some (.ref x), some (.str (nm o)), some (.int off), some (.int goal), some (.int word), w19, w20, w21, w22, none, none]) → Same H H' → D.nx σ' H' ∧ D.ct σ' H'
theorem held_mem {mm : Mm} {dat : List Int} {q r : Int} (ms : mm.ds = DS r ∧ mm.ss = SS dat r) (O : OkM mm (s0P (16 * r) dat (16 * q))) (W : OkW mm (s0P (16 * r) dat (16 * q))) (N : Nm dat q r) (k : Int) : heldF dat q r k = memB mm (s0P (16 * r) dat (16 * q)) k := by
  have h1 := O.dl; have h2 := O.sl; have h5 := W.ap; have q0 := N.q0
  have e1 : (s0P (16 * r) dat (16 * q)).dat = dat := rfl
  have e2 : (s0P (16 * r) dat (16 * q)).stk = List.replicate ((16 * q + 4 - 1) / 4).toNat 0 := rfl
  rw [e1, ms.1] at h1
  rw [e2, List.length_replicate, ms.2] at h2
  unfold heldF memB runF
  rw [e1, e2, ms.1, ms.2]
  by_cases c : DS r ≤ k ∧ k < mm.de
  · rw [if_pos c, if_neg (by omega), if_pos (by omega)]
    show some (cellB dat (((k - DS r).toNat : Nat) : Int)) = _
    rw [show (((k - DS r).toNat : Nat) : Int) = k - DS r by omega]
  · rw [if_neg c]
    by_cases c2 : SS dat r ≤ k ∧ k < mm.se
    · rw [if_pos c2, if_pos (by omega)]
      have : cellB (List.replicate ((16 * q + 4 - 1) / 4).toNat 0) (k - SS dat r) = 0 := by
        unfold cellB
        rw [List.getD_eq_getElem?_getD, List.getElem?_replicate]
        split <;> simp [byte]
      rw [this]
    · rw [if_neg c2, if_neg (by omega), if_neg (by omega)]
theorem ad_goal {dat : List Int} {q r off goal word : Int} {s : PS} (h : s.regs = (sMach cd dat q r off goal word).regs) (g : 0 ≤ goal ∧ goal < 4294967296) : adM s 7 off = goal := by
  unfold adM
  rw [h]
  rw [show rgAt (sMach cd dat q r off goal word).regs 7 = (goal - off) % 4294967296 from rfl]
  omega
theorem rg6 {cd : Nat × Int × Int × Int} {dat : List Int} {q r off goal word : Int} : rgAt (sMach cd dat q r off goal word).regs 6 = word := rfl
theorem isD_lt {o : Nat} (h : isDd o = true) : o < 48 := dd_lt h
def s2M (dat : List Int) (q r off goal word : Int) : PS := { sMach (0, 0, 0, 0) dat q r off goal word with sp := 0 + 1, nx := (16 * r + 4) % 4294967296 }
theorem stM_lo {mm : Mm} {o : Nat} {dat : List Int} {q r off goal word : Int} (c : decide (o < 32) = true) : stM mm (cdM o off) dat q r off goal word = fin1 (loP mm o (6, 7, off) (s2M dat q r off goal word)) := by
  unfold stM doI doD cdM
  simp only [c, if_true]
  rfl
theorem stM_st {mm : Mm} {o : Nat} {dat : List Int} {q r off goal word : Int} (c : ¬ decide (o < 32) = true) : stM mm (cdM o off) dat q r off goal word = fin1 (stP mm o (7, 6, off) (s2M dat q r off goal word)) := by
  have e : cdM o off = (o, 7, 6, off) := if_neg c
  unfold stM
  rw [e]
  unfold doI doD
  dsimp only
  rw [if_neg c]
  rfl
theorem ad2 {dat : List Int} {q r off goal word : Int} (g : 0 ≤ goal ∧ goal < 4294967296) : adM (s2M dat q r off goal word) 7 off = goal := ad_goal (cd := (0, 0, 0, 0)) (dat := dat) (q := q) (r := r) (word := word) rfl g
theorem stM_none {mm : Mm} {o : Nat} {dat : List Int} {q r off goal word : Int} (g : 0 ≤ goal ∧ goal < 4294967296) (h : plc mm goal (szM o) = none) : (stM mm (cdM o off) dat q r off goal word).en = some (asV (16 * r)) ∧ (stM mm (cdM o off) dat q r off goal word).sp = 1 := by
  by_cases c : decide (o < 32) = true
  · rw [stM_lo c]
    have e : loP mm o (6, 7, off) (s2M dat q r off goal word) = { s2M dat q r off goal word with en := some (asV (16 * r)) } := by
      unfold loP
      dsimp only
      rw [ad2 g, h]
      rfl
    rw [e]
    exact ⟨rfl, rfl⟩
  · rw [stM_st c]
    have e : stP mm o (7, 6, off) (s2M dat q r off goal word) = { s2M dat q r off goal word with en := some (asV (16 * r)) } := by
      unfold stP
      dsimp only
      rw [ad2 g, h]
      rfl
    rw [e]
    exact ⟨rfl, rfl⟩
theorem stM_load {mm : Mm} {o : Nat} {dat : List Int} {q r off goal word : Int} {b : Bool} {k : Int} (c : decide (o < 32) = true) (g : 0 ≤ goal ∧ goal < 4294967296) (h : plc mm goal (szM o) = some (b, k)) (r0 : 0 ≤ r) (r1 : r < 900) :
    (stM mm (cdM o off) dat q r off goal word).regs = putR (sMach (0, 0, 0, 0) dat q r off goal word).regs 6 (ldW o ((cells (s0P (16 * r) dat (16 * q)) b).getD k.toNat 0) (8 * (goal % 4))) ∧ (stM mm (cdM o off) dat q r off goal word).pc = 16 * r + 4 := by
  rw [stM_lo c]
  have e : loP mm o (6, 7, off) (s2M dat q r off goal word) = { s2M dat q r off goal word with regs := putR (s2M dat q r off goal word).regs 6 (ldW o ((cells (s0P (16 * r) dat (16 * q)) b).getD k.toNat 0) (8 * (goal % 4))) } := by
    unfold loP
    dsimp only
    rw [ad2 g, h]
    cases b <;> rfl
  rw [e]
  refine ⟨rfl, ?_⟩
  show (16 * r + 4) % 4294967296 = 16 * r + 4
  omega
theorem stM_store {mm : Mm} {o : Nat} {dat : List Int} {q r off goal word : Int} {b : Bool} {k : Int} (c : ¬ decide (o < 32) = true) (g : 0 ≤ goal ∧ goal < 4294967296) (h : plc mm goal (szM o) = some (b, k)) (O : OkM mm (s0P (16 * r) dat (16 * q))) (W : OkW mm (s0P (16 * r) dat (16 * q))) (ho : isDd o = true) :
    OkM mm (stM mm (cdM o off) dat q r off goal word) ∧ OkW mm (stM mm (cdM o off) dat q r off goal word) ∧ ∀ x, memB mm (stM mm (cdM o off) dat q r off goal word) x = if goal ≤ x ∧ x < goal + szM o then some (byte word (x - goal)) else memB mm (s0P (16 * r) dat (16 * q)) x := by
  have O2 : OkM mm (s2M dat q r off goal word) := O.up rfl rfl
  have W2 : OkW mm (s2M dat q r off goal word) := ⟨W.ap, W.d, W.s⟩
  have h2 : plc mm (adM (s2M dat q r off goal word) (7, (6 : Int), off).1 (7, (6 : Int), off).2.2) (szM o) = some (b, k) := by
    dsimp only
    rw [ad2 g]; exact h
  have z := st_mem (q := (7, 6, off)) O2 W2 ho h2
  dsimp only at z
  rw [ad2 g, show rgAt (s2M dat q r off goal word).regs 6 = word from rfl] at z
  obtain ⟨z1, z2, z3⟩ := z
  have e : (stM mm (cdM o off) dat q r off goal word).dat = (stP mm o (7, 6, off) (s2M dat q r off goal word)).dat ∧ (stM mm (cdM o off) dat q r off goal word).stk = (stP mm o (7, 6, off) (s2M dat q r off goal word)).stk := by
    rw [stM_st c]
    unfold fin1
    split <;> exact ⟨rfl, rfl⟩
  refine ⟨z1.up e.1 e.2, ⟨z2.ap, by rw [e.1]; exact z2.d, by rw [e.2]; exact z2.s⟩, fun x => ?_⟩
  rw [show memB mm (stM mm (cdM o off) dat q r off goal word) x = memB mm (stP mm o (7, 6, off) (s2M dat q r off goal word)) x by unfold memB; rw [e.1, e.2]]
  exact z3 x
theorem sz_pos {o : Nat} (h : isDd o = true) : 0 < szM o := by
  rcases many_of h with z | z | z <;> omega
theorem told_none {f : Int → Option Int} {goal many i : Int} (h0 : 0 ≤ i) (h1 : i < many) (e : f (goal + i) = none) : inV V.non (bytesV f goal many) = true := by
  unfold inV
  rw [List.any_eq_true]
  refine ⟨V.non, ?_, rfl⟩
  unfold bytesV
  refine List.mem_map.mpr ⟨i.toNat, List.mem_range.mpr (by omega), ?_⟩
  unfold bvM
  rw [show goal + ((i.toNat : Nat) : Int) = goal + i by omega, e]
  rfl
theorem told_some {f : Int → Option Int} {goal many : Int} (h : ∀ i, 0 ≤ i → i < many → (f (goal + i)).isSome = true) : inV V.non (bytesV f goal many) = false := by
  cases c : inV V.non (bytesV f goal many) with
  | false => rfl
  | true =>
    unfold inV at c
    rw [List.any_eq_true] at c
    obtain ⟨x, hx, e⟩ := c
    unfold bytesV at hx
    obtain ⟨j, hj, rfl⟩ := List.mem_map.mp hx
    have hj' := List.mem_range.mp hj
    have := h (j : Int) (by omega) (by omega)
    unfold bvM at e
    cases q : f (goal + (j : Int)) with
    | none => rw [q] at this; cases this
    | some v => rw [q] at e; cases e
theorem flat_told {f : Int → Option Int} {goal many : Int} : (bytesV f goal many).all flatV = true := by
  rw [List.all_eq_true]
  intro x hx
  unfold bytesV at hx
  obtain ⟨j, hj, rfl⟩ := List.mem_map.mp hx
  unfold bvM
  cases f (goal + (j : Int)) <;> rfl
def asD (pc : Int) : PyData := .tuple [.str "astray", .int pc]
theorem asD_ok (pc : Int) : SeqAt.shaped (asD pc) = true := by simp [asD, SeqAt.shaped, PyData.canLay0, PyData.canLayAll0, PyData.depth, PyData.depthAll]; decide +kernel
theorem asD_same (pc : Int) : PyData.eqv (asD pc) (asD pc) = true := SeqAt.eqv_refl _ (SeqAt.canLay_of_shaped (asD_ok pc))
theorem ne_false {a b : Int} (h : a = b) : (!decide (V.int a = V.int b)) = false := by rw [h, decide_eq_true rfl]; rfl
theorem ne_true {a b : Int} (h : a ≠ b) : (!decide (V.int a = V.int b)) = true := by rw [decide_eq_false (fun z => h (by injection z))]; rfl
def sgT (o : Nat) : Bool := inV (V.str (nm o)) [.str "lb", .str "lh"]
theorem sgT_eq {o : Nat} (h : isDd o = true) (c : o < 32) : sgT o = sgM o := by
  rcases dd_all h with rfl | rfl | rfl | rfl | rfl | rfl | rfl | rfl <;> first | decide +kernel | omega
theorem byte_rng (W i : Int) : 0 ≤ byte W i ∧ byte W i < 256 := by unfold byte; omega
theorem ld_no {o : Nat} {W j : Int} (h : isDd o = true) (c : o < 32) (s : shok (szM o) j) (w : 0 ≤ W ∧ W < 4294967296) (n : ¬ (sgT o = true ∧ (1 * 2 ^ (8 * szM o - 1).toNat : Int) ≤ sumF W j (szM o))) : ldW o W (8 * j) = sumF W j (szM o) := by
  have e := ld_sum s w.1 w.2
  rw [sgT_eq h c] at n
  rw [ldW_no, show ldX o W (8 * j) = _ from e]
  rw [show ldX o W (8 * j) = _ from e]
  rintro ⟨a, b⟩
  refine n ⟨a, ?_⟩
  rcases many_of h with z | z | z <;> rw [z] at b ⊢
  · have : (grM 1) = 255 := rfl
    rw [this] at b
    show (128 : Int) ≤ _; omega
  · have : (grM 2) = 65535 := rfl
    rw [this] at b
    show (32768 : Int) ≤ _; omega
  · have : (grM 4) = 4294967295 := rfl
    rw [this] at b
    show (2147483648 : Int) ≤ _; omega
theorem ld_yes {o : Nat} {W j : Int} (h : isDd o = true) (c : o < 32) (s : shok (szM o) j) (w : 0 ≤ W ∧ W < 4294967296) (n : sgT o = true) (n2 : (1 * 2 ^ (8 * szM o - 1).toNat : Int) ≤ sumF W j (szM o)) : ldW o W (8 * j) = sumF W j (szM o) + 4294967296 - 1 * 2 ^ (8 * szM o).toNat := by
  have e := ld_sum s w.1 w.2
  rw [sgT_eq h c] at n
  have b1 := byte_rng W j; have b2 := byte_rng W (j + 1); have b3 := byte_rng W (j + 2); have b4 := byte_rng W (j + 3)
  rw [ldW_yes n]
  · rw [show ldX o W (8 * j) = _ from e]
    rcases many_of h with z | z | z <;> rw [z] at n2 ⊢
    · have e1 : sumF W j 1 = byte W j := rfl
      rw [e1] at n2 ⊢
      show (byte W j - 255 - 1) % 4294967296 = byte W j + 4294967296 - 256; omega
    · have e1 : sumF W j 2 = byte W j + byte W (j + 1) * 256 := rfl
      rw [e1] at n2 ⊢
      show (byte W j + byte W (j + 1) * 256 - 65535 - 1) % 4294967296 = byte W j + byte W (j + 1) * 256 + 4294967296 - 65536; omega
    · have e1 : sumF W j 4 = byte W j + byte W (j + 1) * 256 + byte W (j + 2) * 65536 + byte W (j + 3) * 16777216 := rfl
      rw [e1] at n2 ⊢
      show (byte W j + byte W (j + 1) * 256 + byte W (j + 2) * 65536 + byte W (j + 3) * 16777216 - 4294967295 - 1) % 4294967296 = byte W j + byte W (j + 1) * 256 + byte W (j + 2) * 65536 + byte W (j + 3) * 16777216 + 4294967296 - 4294967296; omega
  · rw [show ldX o W (8 * j) = _ from e]
    rcases many_of h with z | z | z <;> rw [z] at n2 ⊢
    · have n3 : (128 : Int) ≤ sumF W j 1 := n2
      show (127 : Int) < _; omega
    · have n3 : (32768 : Int) ≤ sumF W j 2 := n2
      show (32767 : Int) < _; omega
    · have n3 : (2147483648 : Int) ≤ sumF W j 4 := n2
      show (2147483647 : Int) < _; omega
def shB (W j : Int) (n : Nat) : List Int := (List.range n).map fun (i : Nat) => byte W (j + (i : Int)) * 2 ^ (8 * (i : Int)).toNat
theorem shB_sum {W j many : Int} (h : many_ok many) : (shB W j many.toNat).sum = sumF W j many := by
  rcases h with rfl | rfl | rfl
  · show byte W (j + 0) * 1 + 0 = byte W j
    rw [show j + 0 = j by omega]; omega
  · show byte W (j + 0) * 1 + (byte W (j + 1) * 256 + 0) = byte W j + byte W (j + 1) * 256
    rw [show j + 0 = j by omega]; omega
  · show byte W (j + 0) * 1 + (byte W (j + 1) * 256 + (byte W (j + 2) * 65536 + (byte W (j + 3) * 16777216 + 0))) = byte W j + byte W (j + 1) * 256 + byte W (j + 2) * 65536 + byte W (j + 3) * 16777216
    rw [show j + 0 = j by omega]; omega
def tolds (W j : Int) (n : Nat) : List Int := (List.range n).map fun (i : Nat) => byte W (j + (i : Int))
theorem told_eq {f : Int → Option Int} {goal many W j : Int} (h : ∀ i, 0 ≤ i → i < many → f (goal + i) = some (byte W (j + i))) : bytesV f goal many = (tolds W j many.toNat).map V.int := by
  unfold bytesV tolds
  rw [List.map_map]
  refine List.map_congr_left fun i hi => ?_
  have hi' := List.mem_range.mp hi
  unfold bvM
  rw [h (i : Int) (by omega) (by omega)]
  rfl
theorem tolds_at {W j : Int} {n i : Nat} (h : i < n) : (tolds W j n).getD i 0 = byte W (j + (i : Int)) := by
  unfold tolds
  rw [List.getD_eq_getElem?_getD, List.getElem?_map, List.getElem?_range h]
  rfl
theorem tolds_len {W j : Int} {n : Nat} : (tolds W j n).length = n := by unfold tolds; rw [List.length_map, List.length_range]
theorem shB_succ {W j : Int} {n : Nat} : shB W j (n + 1) = shB W j n ++ [byte W (j + (n : Int)) * 2 ^ (8 * (n : Int)).toNat] := by
  unfold shB; rw [List.range_succ, List.map_append]; rfl
theorem cell_rng {s : PS} {mm : Mm} (W : OkW mm s) (b : Bool) (n : Nat) : 0 ≤ (cells s b).getD n 0 ∧ (cells s b).getD n 0 < 4294967296 := by
  cases b
  · exact getD_rng W.d n
  · exact getD_rng W.s n
/-- a store went -/
def PS3 (K : PySem.W.Frag) (sl : Addr) (D : L2.Ends) (σ : L2.St) (H : Hp) : Prop := ∃ (d zD W im hA BL x C dx : Addr) (m : Mc) (mm : Mm) (dat : List Int) (kvs : List (Key × V)) (q r off goal word : Int) (o : Nat) (v4 v8 v11 v19 v20 v21 v22 : Option V), σ = [some (.ref sl), some (.ref d), some (.ref zD), some (.ref W), v4, some (.int (dat.length : Int)), some (.int (16 * q)), some (.int (16 * r)), v8, some (.ref im), some (.ref hA), v11, some (.int (szM o)), some (.ref BL), some (.ref x), some (.str (nm o)), some (.int off), some (.int goal), some (.int word), v19, v20, v21, v22, none, none] ∧
  MS K H x C dx m mm ⟨[wrd (cdM o off), wrd (cdM o off), wrd (cdM o off)], 16 * r⟩ (stM mm (cdM o off) dat q r off goal word) ∧ OkM mm (s0P (16 * r) dat (16 * q)) ∧ OkW mm (s0P (16 * r) dat (16 * q)) ∧ (mm.ds = DS r ∧ mm.ss = SS dat r) ∧ Nm dat q r ∧ isDd o = true ∧ ¬ (o < 32) ∧ -2048 ≤ off ∧ off ≤ 2047 ∧ (∃ (b : Bool) (k : Int), plc mm goal (szM o) = some (b, k)) ∧
  H hA = some (.dK kvs) ∧ MD kvs (heldF dat q r) 56 ∧ H BL = some (.lst (bytesV (heldF dat q r) goal (szM o))) ∧ (0 ≤ goal ∧ goal < 4294967296) ∧ (0 ≤ word ∧ word < 4294967296) ∧
  ∀ (σ' : L2.St) (H' : Hp), (∃ w8 w19 w20 w21 w22 : Option V, σ' = [some (.ref sl), some (.ref d), some (.ref zD), some (.ref W), v4, some (.int (dat.length : Int)), some (.int (16 * q)), some (.int (16 * r)), w8, some (.ref im), some (.ref hA), v11, some (.int (szM o)), some (.ref BL), some (.ref x), some (.str (nm o)), some (.int off), some (.int goal), some (.int word), w19, w20, w21, w22, none, none]) → Same H H' → D.nx σ' H' ∧ D.ct σ' H'
/-- late is told -/
def PS4 (K : PySem.W.Frag) (sl : Addr) (D : L2.Ends) (σ : L2.St) (H : Hp) : Prop := ∃ (d zD W im hA BL x C dx lA : Addr) (m : Mc) (mm : Mm) (dat : List Int) (kvs : List (Key × V)) (k2 : List (Key × V)) (q r off goal word : Int) (o : Nat) (v4 v8 v11 v20 v21 v22 : Option V), σ = [some (.ref sl), some (.ref d), some (.ref zD), some (.ref W), v4, some (.int (dat.length : Int)), some (.int (16 * q)), some (.int (16 * r)), v8, some (.ref im), some (.ref hA), v11, some (.int (szM o)), some (.ref BL), some (.ref x), some (.str (nm o)), some (.int off), some (.int goal), some (.int word), some (.ref lA), v20, v21, v22, none, none] ∧
  MS K H x C dx m mm ⟨[wrd (cdM o off), wrd (cdM o off), wrd (cdM o off)], 16 * r⟩ (stM mm (cdM o off) dat q r off goal word) ∧ OkM mm (stM mm (cdM o off) dat q r off goal word) ∧ OkW mm (stM mm (cdM o off) dat q r off goal word) ∧
  H lA = some (.dK k2) ∧ MD k2 (fun k => memB mm (stM mm (cdM o off) dat q r off goal word) k) 56 ∧
  ∀ (σ' : L2.St) (H' : Hp), (∃ w8 w19 w20 w21 w22 : Option V, σ' = [some (.ref sl), some (.ref d), some (.ref zD), some (.ref W), v4, some (.int (dat.length : Int)), some (.int (16 * q)), some (.int (16 * r)), w8, some (.ref im), some (.ref hA), v11, some (.int (szM o)), some (.ref BL), some (.ref x), some (.str (nm o)), some (.int off), some (.int goal), some (.int word), w19, w20, w21, w22, none, none]) → Same H H' → D.nx σ' H' ∧ D.ct σ' H'
theorem lk_fat {m : Mc} (x : xsOk m.xs) : (mfs m).lookup ("field_at" : Str) = none := by
  rcases x with x | ⟨i, x⟩
  · unfold mfs; rw [x]; rfl
  · unfold mfs; rw [x]; rfl
def tFieldM (K : PySem.W.Frag) : TE := fun σ H Q => My.tMethG (He.ga K "Machine") "field_at" (sp_Machine_field_at K) E0 (tVar 14) (tCons (tVar 20) tNil) σ H Q ∨ My.tMethG (He.ga K "ReadyMachine") "field_at" (sp_ReadyMachine_field_at K) E0 (tVar 14) (tCons (tVar 20) tNil) σ H Q
theorem field_ofM {K : PySem.W.Frag} {H : Hp} {x C dx : Addr} {m : Mc} {mm : Mm} {c : Cfg} {s : PS} {σ : L2.St} {Q : VK} {ad : Int} (S : MS K H x C dx m mm c s) (hσ : σ[14]? = some (some (.ref x))) (hs : σ[20]? = some (some (.int ad))) (h : ∀ (H' : Hp) (p : Addr), Same H H' → H' p = some (.tup (plcV mm ad 4)) → Q (.ref p) H') : tFieldM K σ H Q := by
  rcases S.M.cl with rfl | rfl
  · exact Or.inl ⟨_, hσ, x, dx, _, rfl, S.M.at_, lk_fat S.M.xo, _, hs, _, _, rfl, x, dx, m, mm, c, s, ad, rfl, rfl, S, h⟩
  · exact Or.inr ⟨_, hσ, x, dx, _, rfl, S.M.at_, lk_fat S.M.xo, _, hs, _, _, rfl, x, dx, m, mm, c, s, ad, rfl, rfl, S, h⟩
theorem shB4 {W : Int} (h : 0 ≤ W ∧ W < 4294967296) : (shB W 0 4).sum = W := by
  have e := shB_sum (W := W) (j := 0) (many := 4) (.inr (.inr rfl))
  rw [show (4 : Int).toNat = 4 from rfl] at e
  rw [e]
  exact (word_bytes h.1 h.2).symm
def sp_law (K : PySem.W.Frag) : Sp := sp1 fun x H Q _ => ∃ (l : Addr) (ns : List Int), x = .ref l ∧ SqL K H l (ns.map V.int) ∧ ∀ H', Q (.bl true) H'
section
variable {P : Program} {w : World} {K : PySem.W.Frag} {mg : Str → Option Value} {base : Heap}
theorem law_cM1 (T : Txt K mg w) (G__law_next : Gd P w K mg base CX0 3 "_law_next" ["draw", "bound"] (sp__law_next K)) (G__law_pick : Gd P w K mg base CX0 4 "_law_pick" ["draw", "things"] (sp__law_pick K)) (G__law_image : Gd P w K mg base CX0 5 "_law_image" ["rows", "words", "stack", "base"] (sp__law_image K)) (G_data_start : Gd P w K mg base CX0 2 "data_start" ["image"] (sp_data_start K)) (G_stack_start : Gd P w K mg base CX0 3 "stack_start" ["image"] (sp_stack_start K)) (G_Processor___init__ : Gm P w K mg base CX0 6 (He.ga K "Processor") "__init__" ["self", "image", "inputs"] (sp_Processor___init__ K)) (G_ReadyMachine___init__ : Gm P w K mg base CX0 7 (He.ga K "ReadyMachine") "__init__" ["self", "image", "inputs"] (sp_ReadyMachine___init__ K)) (G_Machine_step : Gm P w K mg base CX0 5 (He.ga K "Machine") "step" ["self"] (sp_Machine_step K)) (G_ReadyMachine_step : Gm P w K mg base CX0 5 (He.ga K "ReadyMachine") "step" ["self"] (sp_ReadyMachine_step K)) (G_Machine_field_at : Gm P w K mg base CX0 2 (He.ga K "Machine") "field_at" ["self", "address"] (sp_Machine_field_at K)) (G_ReadyMachine_field_at : Gm P w K mg base CX0 2 (He.ga K "ReadyMachine") "field_at" ["self", "address"] (sp_ReadyMachine_field_at K)) {f : Addr} {cdv : Value} {A : Around} {outer : List Env} {s : Shared} {H : Hp} {Q : VK} {E : XK} (hr : Room 8 (A.deeper (envOfC ("law" : Str) (defScope s_law) s.heap.objs.size f cdv))) (sl : Addr) (c : ∃ t, PSs ((cxOf CX0 P w K mg base ["script", "draw", "sizes", "words", "turn", "many", "stack", "base", "row", "image", "held", "places", "size", "bytes_told", "machine", "name", "offset", "goal", "word", "late", "address", "at", "found", "byte", "step"] ("law" : Str) (defScope s_law) f cdv A outer s H E).nox) (machB.drop 3) t ∧ ∀ (D : L2.Ends) σ H1, PS1 K sl D σ H1 → t D σ H1) : ∃ t, PSs ((cxOf CX0 P w K mg base ["script", "draw", "sizes", "words", "turn", "many", "stack", "base", "row", "image", "held", "places", "size", "bytes_told", "machine", "name", "offset", "goal", "word", "late", "address", "at", "found", "byte", "step"] ("law" : Str) (defScope s_law) f cdv A outer s H E).nox) (machB.drop 0) t ∧ ∀ (D : L2.Ends) σ H1, PM K sl D σ H1 → t D σ H1 := by
  have sc := sc_law
  obtain ⟨tt, ht, hq⟩ := c
  refine ⟨_, (pss_cons (ps_asg (pe_op op_mod (pe_op op_sub (pv 17) (pv 16)) pe_int) (pg_sub (pe_fld (pv 14) rfl) pe_int set_list))
      (pss_cons (ps_asg (pv 18) (pg_sub (pe_fld (pv 14) rfl) pe_int set_list))
      (pss_cons (ps_expr (Mh.pe_or (pe_gm0 (pv 14) T.cl_Machine.c G_Machine_step (hr.mono (by omega)) pass0) (pe_gm0 (pv 14) T.cl_ReadyMachine.c G_ReadyMachine_step (hr.mono (by omega)) pass0)))
      ht))), fun D σ Hq p => ?_⟩
  obtain ⟨d, zD, W, im, hA, BL, x, C, dx, m, mm, dat, kvs, q, r, off, goal, word, o, v4, v8, v11, v19, v20, v21, v22, rfl, S, oM, oW, ms, N, ho, f0, f1, ok, eA, M, eB, nb1, nb2, nb3, gr, wr, nxt⟩ := p
  have okc := okC_law ok N.r0
  refine ⟨_, rfl, _, rfl, _, _, rfl, rfl, _, _, rfl, rfl, (by show (0 : Int) < 4294967296; decide), _, rfl, x, C, dx, _, _, rfl, S.M.at_, T.cls S.M.cl, T.na S.M.cl mf_registers, lk_registers _, ?_⟩
  refine ⟨m.rg, _, 7, 7, rfl, rfl, S.M.rg, rfl, ?_⟩
  rw [map_set_int]
  obtain ⟨R1, g1⟩ := S.frg 7 ((goal - off) % 4294967296) (ButL.put (by simp)) (H' := upd Hq m.rg (.lst ((putR regs0 7 ((goal - off) % 4294967296)).map V.int))) upd_same
  change _
  have eA1 := g1.bt _ _ eA (by simp; exact ⟨ne_of eA S.M.at_ (fun z => by cases z), ne_of eA S.M.rg (fun z => by cases z), ne_of eA S.da (fun z => by cases z), ne_of eA S.sa (fun z => by cases z)⟩)
  have eB1 := g1.bt _ _ eB (by simp; exact ⟨ne_of eB S.M.at_ (fun z => by cases z), nb1, nb2, nb3⟩)
  have nxt1 := fun σ' H' hs bt => nxt σ' H' hs (ButL.trans g1.bt bt)
  rw [show (s0P (16 * r) dat (16 * q)).regs.set 7 ((goal - off) % 4294967296) = putR regs0 7 ((goal - off) % 4294967296) from rfl]
  clear nxt eA eB
  generalize upd Hq m.rg (.lst ((putR regs0 7 ((goal - off) % 4294967296)).map V.int)) = A1 at *
  refine ⟨_, rfl, _, rfl, x, C, dx, _, _, rfl, R1.M.at_, T.cls S.M.cl, T.na S.M.cl mf_registers, lk_registers _, ?_⟩
  refine ⟨m.rg, _, 6, 6, rfl, rfl, R1.M.rg, rfl, ?_⟩
  rw [map_set_int]
  obtain ⟨R2, g2⟩ := R1.frg 6 word (ButL.put (by simp)) (H' := upd A1 m.rg (.lst ((putR (putR regs0 7 ((goal - off) % 4294967296)) 6 word).map V.int))) upd_same
  have eA2 := g2.bt _ _ eA1 (by simp; exact ⟨ne_of eA1 R1.M.at_ (fun z => by cases z), ne_of eA1 R1.M.rg (fun z => by cases z), ne_of eA1 R1.da (fun z => by cases z), ne_of eA1 R1.sa (fun z => by cases z)⟩)
  have eB2 := g2.bt _ _ eB1 (by simp; exact ⟨ne_of eB1 R1.M.at_ (fun z => by cases z), nb1, nb2, nb3⟩)
  have nxt2 := fun σ' H' hs bt => nxt1 σ' H' hs (ButL.trans g2.bt bt)
  clear nxt1 eA1 eB1 R1 g1 g2 S
  change tStepM K _ (upd A1 m.rg (.lst ((putR (putR regs0 7 ((goal - off) % 4294967296)) 6 word).map V.int))) _
  generalize upd A1 m.rg (.lst ((putR (putR regs0 7 ((goal - off) % 4294967296)) 6 word).map V.int)) = A2 at *
  replace R2 : MS K A2 x C dx m mm ⟨[wrd (cdM o off), wrd (cdM o off), wrd (cdM o off)], 16 * r⟩ (sMach (cdM o off) dat q r off goal word) := R2
  refine step_ofM R2 rfl okc (oM.up rfl rfl) rfl fun A3 m' S3 g3 => ?_
  rw [step_mach ok N.r0] at S3
  have eA3 := g3.bt _ _ eA2 (by simp; exact ⟨ne_of eA2 R2.M.at_ (fun z => by cases z), ne_of eA2 R2.M.rg (fun z => by cases z), ne_of eA2 R2.da (fun z => by cases z), ne_of eA2 R2.sa (fun z => by cases z)⟩)
  have eB3 := g3.bt _ _ eB2 (by simp; exact ⟨ne_of eB2 R2.M.at_ (fun z => by cases z), nb1, nb2, nb3⟩)
  exact hq D _ _ ⟨d, zD, W, im, hA, BL, x, C, dx, m', mm, dat, kvs, q, r, off, goal, word, o, _, _, _, _, _, _, _, rfl, S3, oM, oW, ms, N, ho, f0, f1, eA3, M, eB3, gr, wr, fun σ' H' hs s => nxt2 σ' H' hs (ButL.trans g3.bt (ButL.same s))⟩
theorem law_cM2 (T : Txt K mg w) (G__law_next : Gd P w K mg base CX0 3 "_law_next" ["draw", "bound"] (sp__law_next K)) (G__law_pick : Gd P w K mg base CX0 4 "_law_pick" ["draw", "things"] (sp__law_pick K)) (G__law_image : Gd P w K mg base CX0 5 "_law_image" ["rows", "words", "stack", "base"] (sp__law_image K)) (G_data_start : Gd P w K mg base CX0 2 "data_start" ["image"] (sp_data_start K)) (G_stack_start : Gd P w K mg base CX0 3 "stack_start" ["image"] (sp_stack_start K)) (G_Processor___init__ : Gm P w K mg base CX0 6 (He.ga K "Processor") "__init__" ["self", "image", "inputs"] (sp_Processor___init__ K)) (G_ReadyMachine___init__ : Gm P w K mg base CX0 7 (He.ga K "ReadyMachine") "__init__" ["self", "image", "inputs"] (sp_ReadyMachine___init__ K)) (G_Machine_step : Gm P w K mg base CX0 5 (He.ga K "Machine") "step" ["self"] (sp_Machine_step K)) (G_ReadyMachine_step : Gm P w K mg base CX0 5 (He.ga K "ReadyMachine") "step" ["self"] (sp_ReadyMachine_step K)) (G_Machine_field_at : Gm P w K mg base CX0 2 (He.ga K "Machine") "field_at" ["self", "address"] (sp_Machine_field_at K)) (G_ReadyMachine_field_at : Gm P w K mg base CX0 2 (He.ga K "ReadyMachine") "field_at" ["self", "address"] (sp_ReadyMachine_field_at K)) {f : Addr} {cdv : Value} {A : Around} {outer : List Env} {s : Shared} {H : Hp} {Q : VK} {E : XK} (hr : Room 8 (A.deeper (envOfC ("law" : Str) (defScope s_law) s.heap.objs.size f cdv))) (sl : Addr) (c : ∃ t, PSs ((cxOf CX0 P w K mg base ["script", "draw", "sizes", "words", "turn", "many", "stack", "base", "row", "image", "held", "places", "size", "bytes_told", "machine", "name", "offset", "goal", "word", "late", "address", "at", "found", "byte", "step"] ("law" : Str) (defScope s_law) f cdv A outer s H E).nox) (machB.drop 4) t ∧ ∀ (D : L2.Ends) σ H1, PS2 K sl D σ H1 → t D σ H1) : ∃ t, PSs ((cxOf CX0 P w K mg base ["script", "draw", "sizes", "words", "turn", "many", "stack", "base", "row", "image", "held", "places", "size", "bytes_told", "machine", "name", "offset", "goal", "word", "late", "address", "at", "found", "byte", "step"] ("law" : Str) (defScope s_law) f cdv A outer s H E).nox) (machB.drop 3) t ∧ ∀ (D : L2.Ends) σ H1, PS1 K sl D σ H1 → t D σ H1 := by
  have sc := sc_law
  obtain ⟨tt, ht, hq⟩ := c
  refine ⟨_, (pss_cons (ps_if (PW.pt (pw_or (pt_cmpR op_ne (pe_op op_mod (pv 17) (pv 12)) pe_int (nomark _)) (pw_or1 (pt_cmpR op_in_seq pe_non (pv 13) rfl)))) (pss_cons (ps_if (PW.pt (pw_or (pt_cmpR (op_neD hr.units) (pe_fld (pv 14) rfl) (pe_tup (pa_cons pe_str (pa_cons (pv 7) pa_nil))) (nomark _)) (pw_or1 (pt_cmpR op_ne (pe_fld (pv 14) rfl) pe_int (nomark _))))) (pss_one (ps_ret pe_bl)) pss_nil)
      (pss_one ps_continue)) pss_nil)
      ht), fun D σ Hq p => ?_⟩
  obtain ⟨d, zD, W, im, hA, BL, x, C, dx, m, mm, dat, kvs, q, r, off, goal, word, o, v4, v8, v11, v19, v20, v21, v22, rfl, S, oM, oW, ms, N, ho, f0, f1, eA, M, eB, gr, wr, nxt⟩ := p
  have szo := szM_ok ho
  have hm := held_mem ms oM oW N
  refine ⟨_, rfl, _, rfl, _, _, rfl, rfl, sz_pos ho, ?_⟩
  cases hp : plc mm goal (szM o) with
  | some bk =>
    obtain ⟨b, k⟩ := bk
    obtain ⟨p1, p2, p3, _⟩ := plc_some oM oW szo hp
    refine ⟨rfl, _, rfl, if_false_of (ne_false (by rw [p1])) ?_⟩
    refine ⟨_, rfl, BL, _, rfl, Or.inl (SqL.of eB), rfl, flat_told, _, rfl, if_false_of (told_some fun i i0 i1 => by rw [hm, p3 i i0 i1]; rfl) ?_⟩
    exact hq D _ _ ⟨d, zD, W, im, hA, BL, x, C, dx, m, mm, dat, kvs, q, r, off, goal, word, o, _, _, _, _, _, _, _, rfl, S, oM, oW, ms, N, ho, f0, f1, ⟨b, k, hp⟩, eA, M, eB, gr, wr, nxt⟩
  | none =>
    obtain ⟨z1, z2⟩ := stM_none (off := off) (q := q) (r := r) (dat := dat) (word := word) gr hp
    obtain ⟨t, e2, e3⟩ : ∃ t, m.en = .ref t ∧ Hq t = some (.tup (asV (16 * r))) := by
      rcases S.en with ⟨e, _⟩ | ⟨vs, t, e1, e2, e3⟩
      · rw [z1] at e; cases e
      · rw [z1] at e1; cases e1; exact ⟨t, e2, e3⟩
    by_cases c0 : goal % szM o = 0
    rotate_left
    · refine ⟨rfl, _, rfl, if_true_of (ne_true c0) ?_⟩
      refine ⟨_, rfl, x, C, dx, _, _, rfl, S.M.at_, T.cls S.M.cl, T.na S.M.cl mf_ended, lk_ended _, _, rfl, (by show 2 ≤ sizeLine; decide), fun tq hq' => ?_⟩
      have sq := same_new (o := .tup [.str "astray", .int (16 * r)]) hq'
      refine ⟨asD (16 * r), asD (16 * r), by rw [e2]; exact Dp.tup (SqT.of (sq _ _ e3)) (.cons (.str _) (.cons (.int _) .nil)), Dp.tup (SqT.of upd_same) (.cons (.str _) (.cons (.int _) .nil)), asD_ok _, asD_ok _, _, rfl, if_false_of (by rw [asD_same]; rfl) ?_⟩
      refine ⟨_, rfl, x, C, dx, _, _, rfl, sq _ _ S.M.at_, T.cls S.M.cl, T.na S.M.cl mf_steps, lk_steps _, rfl, _, rfl, if_false_of (ne_false (by rw [S.sp]; exact z2)) ?_⟩
      exact (nxt _ _ ⟨_, _, _, _, _, rfl⟩ sq).2
    · refine ⟨rfl, _, rfl, if_false_of (ne_false c0) ?_⟩
      obtain ⟨i, i0, i1, i2⟩ := plc_none oM oW szo hp c0
      refine ⟨_, rfl, BL, _, rfl, Or.inl (SqL.of eB), rfl, flat_told, _, rfl, if_true_of (told_none i0 i1 (by rw [hm]; exact i2)) ?_⟩
      refine ⟨_, rfl, x, C, dx, _, _, rfl, S.M.at_, T.cls S.M.cl, T.na S.M.cl mf_ended, lk_ended _, _, rfl, (by show 2 ≤ sizeLine; decide), fun tq hq' => ?_⟩
      have sq := same_new (o := .tup [.str "astray", .int (16 * r)]) hq'
      refine ⟨asD (16 * r), asD (16 * r), by rw [e2]; exact Dp.tup (SqT.of (sq _ _ e3)) (.cons (.str _) (.cons (.int _) .nil)), Dp.tup (SqT.of upd_same) (.cons (.str _) (.cons (.int _) .nil)), asD_ok _, asD_ok _, _, rfl, if_false_of (by rw [asD_same]; rfl) ?_⟩
      refine ⟨_, rfl, x, C, dx, _, _, rfl, sq _ _ S.M.at_, T.cls S.M.cl, T.na S.M.cl mf_steps, lk_steps _, rfl, _, rfl, if_false_of (ne_false (by rw [S.sp]; exact z2)) ?_⟩
      exact (nxt _ _ ⟨_, _, _, _, _, rfl⟩ sq).2
theorem law_cM3 (T : Txt K mg w) (G__law_next : Gd P w K mg base CX0 3 "_law_next" ["draw", "bound"] (sp__law_next K)) (G__law_pick : Gd P w K mg base CX0 4 "_law_pick" ["draw", "things"] (sp__law_pick K)) (G__law_image : Gd P w K mg base CX0 5 "_law_image" ["rows", "words", "stack", "base"] (sp__law_image K)) (G_data_start : Gd P w K mg base CX0 2 "data_start" ["image"] (sp_data_start K)) (G_stack_start : Gd P w K mg base CX0 3 "stack_start" ["image"] (sp_stack_start K)) (G_Processor___init__ : Gm P w K mg base CX0 6 (He.ga K "Processor") "__init__" ["self", "image", "inputs"] (sp_Processor___init__ K)) (G_ReadyMachine___init__ : Gm P w K mg base CX0 7 (He.ga K "ReadyMachine") "__init__" ["self", "image", "inputs"] (sp_ReadyMachine___init__ K)) (G_Machine_step : Gm P w K mg base CX0 5 (He.ga K "Machine") "step" ["self"] (sp_Machine_step K)) (G_ReadyMachine_step : Gm P w K mg base CX0 5 (He.ga K "ReadyMachine") "step" ["self"] (sp_ReadyMachine_step K)) (G_Machine_field_at : Gm P w K mg base CX0 2 (He.ga K "Machine") "field_at" ["self", "address"] (sp_Machine_field_at K)) (G_ReadyMachine_field_at : Gm P w K mg base CX0 2 (He.ga K "ReadyMachine") "field_at" ["self", "address"] (sp_ReadyMachine_field_at K)) {f : Addr} {cdv : Value} {A : Around} {outer : List Env} {s : Shared} {H : Hp} {Q : VK} {E : XK} (hr : Room 8 (A.deeper (envOfC ("law" : Str) (defScope s_law) s.heap.objs.size f cdv))) (sl : Addr) (c : ∃ t, PSs ((cxOf CX0 P w K mg base ["script", "draw", "sizes", "words", "turn", "many", "stack", "base", "row", "image", "held", "places", "size", "bytes_told", "machine", "name", "offset", "goal", "word", "late", "address", "at", "found", "byte", "step"] ("law" : Str) (defScope s_law) f cdv A outer s H E).nox) (machB.drop 5) t ∧ ∀ (D : L2.Ends) σ H1, PS3 K sl D σ H1 → t D σ H1) : ∃ t, PSs ((cxOf CX0 P w K mg base ["script", "draw", "sizes", "words", "turn", "many", "stack", "base", "row", "image", "held", "places", "size", "bytes_told", "machine", "name", "offset", "goal", "word", "late", "address", "at", "found", "byte", "step"] ("law" : Str) (defScope s_law) f cdv A outer s H E).nox) (machB.drop 4) t ∧ ∀ (D : L2.Ends) σ H1, PS2 K sl D σ H1 → t D σ H1 := by
  have sc := sc_law
  obtain ⟨tt, ht, hq⟩ := c
  refine ⟨_, (pss_cons (ps_if (pt_cmpR op_eq (pe_ix ix_str (pv 15) pe_int (fun _ _ => rfl)) pe_str (nomark _)) (pss_cons (ps_set (i := 22) sc.nd rfl (Or.inl rfl) (pe_callB (cr_sum rfl) (by rfl) T.n_sum (by decide +kernel) (pa_cons (pe_lc (own := [("at", 21), ("byte", 23)]) (g := gTup K 2 (gCons (gName 21) (gCons (gName 23) (gNil)))) (by rfl) sc.nd (pi_enum rfl T.n_enumerate (pa_cons (pv 13) pa_nil)) (blkOk_by (own := [("at", 21), ("byte", 23)]) (N := ["script", "draw", "sizes", "words", "turn", "many", "stack", "base", "row", "image", "held", "places", "size", "bytes_told", "machine", "name", "offset", "goal", "word", "late", "address", "at", "found", "byte", "step"]) (sc := defScope s_law) (by decide +kernel)) (fun _ _ _ _ _ => (pg_tup rfl (pgs_cons (pg_name (i := 21) sc.nd rfl (Or.inl rfl)) (pgs_cons (pg_name (i := 23) sc.nd rfl (Or.inl rfl)) pgs_nil)))) (fun _ _ _ _ _ => pts_nil) (fun _ _ _ _ _ => (pe_op op_shl (pv 23) (pe_op op_mul pe_int (pv 21))))) pa_nil)))
      (pss_cons (ps_if (PW.pt (pw_and (pt_cmpR op_in_seq (pv 15) (pe_tup (pa_cons pe_str (pa_cons pe_str pa_nil))) rfl) (pw_and1 (pt_cmpR op_ge (pv 22) (pe_op op_shl pe_int (pe_op op_sub (pe_op op_mul pe_int (pv 12)) pe_int)) (nomark _))))) (pss_one (ps_set (i := 22) sc.nd rfl (Or.inl rfl) (pe_op op_sub (pe_op op_add (pv 22) pe_int) (pe_op op_shl pe_int (pe_op op_mul pe_int (pv 12)))))) pss_nil)
      (pss_cons (ps_if (PW.pt (pw_or (pt_cmpR op_ne (pe_ix ix_list (pe_fld (pv 14) rfl) pe_int (fun _ _ => rfl)) (pv 22) (nomark _)) (pw_or1 (pt_cmpR op_ne (pe_fld (pv 14) rfl) (pe_op op_add (pv 7) pe_int) (nomark _))))) (pss_one (ps_ret pe_bl)) pss_nil)
      (pss_one ps_continue)))) pss_nil)
      ht), fun D σ Hq p => ?_⟩
  obtain ⟨d, zD, W, im, hA, BL, x, C, dx, m, mm, dat, kvs, q, r, off, goal, word, o, v4, v8, v11, v19, v20, v21, v22, rfl, S, oM, oW, ms, N, ho, f0, f1, ⟨b, k, hp⟩, eA, M, eB, gr, wr, nxt⟩ := p
  have szo := szM_ok ho
  have hm := held_mem ms oM oW N
  obtain ⟨p1, p2, p3, _⟩ := plc_some oM oW szo hp
  obtain ⟨c1, c2, c3⟩ := ch_at ho
  refine ⟨_, rfl, _, 0, _, rfl, rfl, c1, c2, rfl, _, rfl, ?_⟩
  by_cases z : o < 32
  rotate_left
  · refine if_false_of (by rw [c3]; exact decide_eq_false z) ?_
    exact hq D _ _ ⟨d, zD, W, im, hA, BL, x, C, dx, m, mm, dat, kvs, q, r, off, goal, word, o, _, _, _, _, _, _, _, rfl, S, oM, oW, ms, N, ho, z, f0, f1, ⟨b, k, hp⟩, eA, M, eB, gr, wr, nxt⟩
  · refine if_true_of (by rw [c3]; exact decide_eq_true z) ?_
    generalize hW : (cells (s0P (16 * r) dat (16 * q)) b).getD k.toNat 0 = cw at *
    have wr2 : 0 ≤ cw ∧ cw < 4294967296 := by rw [← hW]; exact cell_rng oW b _
    have te : bytesV (heldF dat q r) goal (szM o) = (tolds cw (goal % 4) (szM o).toNat).map V.int := told_eq fun i i0 i1 => by rw [hm]; exact p3 i i0 i1
    rw [te] at eB
    have n4 : (szM o).toNat ≤ 4 := by rcases szo with z | z | z <;> omega
    obtain ⟨L1, L2⟩ := stM_load (mm := mm) (off := off) (q := q) (dat := dat) (word := word) (decide_eq_true z) gr hp N.r0 N.r1
    rw [hW] at L1
    have sh := shok_of szo p1
    refine ⟨_, rfl, BL, _, rfl, SqL.of eB, fun l hl => ?_⟩
    refine lc_it (walk_enum (K := K) (a := BL) (xs := (tolds cw (goal % 4) (szM o).toNat).map V.int)) (fun i H' => Same Hq H' ∧ H' l = some (.lst ((shB cw (goal % 4) i).map V.int))) ⟨same_new hl, upd_same⟩ (fun i H' _ p => SqL.of (p.1 _ _ eB)) (fun i x H6 H7 hi p y => ?_) (fun H6 p => ?_)
    · obtain ⟨Tt, x, y, rfl, hT, rfl, e1, e2⟩ := y
      injection e1 with e1
      subst e1
      rw [List.length_map] at hi
      have e2 : ((tolds cw (goal % 4) (szM o).toNat).map V.int)[i]? = some y := e2
      have e2 : y = .int ((tolds cw (goal % 4) (szM o).toNat).getD i 0) := by
        rw [List.getElem?_map, List.getElem?_eq_getElem hi] at e2
        injection e2 with e2
        rw [List.getD_eq_getElem?_getD, List.getElem?_eq_getElem hi]
        exact e2.symm
      rw [tolds_len] at hi
      rw [tolds_at hi] at e2
      subst e2
      have hw := byte_rng cw (goal % 4 + (i : Int))
      have DT : l ≠ Tt := ne_of_none p.2 hT
      have sT : Same Hq (upd H6 Tt (.tup [.int (i : Nat), .int (byte cw (goal % 4 + (i : Int)))])) := Same.tr p.1 (same_new hT)
      refine ⟨Tt, _, rfl, SqT.of upd_same, rfl, _, _, rfl, _, _, rfl, rfl, rfl, ?_⟩
      dsimp only [tYes]
      rw [if_pos rfl]
      refine ⟨_, rfl, _, rfl, _, _, rfl, rfl, Or.inl ⟨by omega, by omega⟩, _, _, rfl, rfl, ⟨by omega, by omega, by omega⟩, ?_⟩
      refine ⟨_, by rw [upd_ne DT]; exact p.2, (by rw [List.length_map]; unfold shB; rw [List.length_map, List.length_range]; exact tup_lt (by omega)), fun x o e => ?_, ?_⟩
      · by_cases z : x = l
        · rw [z, hl] at e; cases e
        · rw [upd_ne z]; exact sT _ _ e
      · rw [upd_same, shB_succ, List.map_append]
        rfl
    rw [List.length_map, tolds_len] at p
    refine ⟨l, shB cw (goal % 4) (szM o).toNat, rfl, SqL.of p.2, ?_⟩
    rw [shB_sum szo]
    obtain ⟨s6, _⟩ := p
    generalize hF : sumF cw (goal % 4) (szM o) = fd at *
    have S6 := S.same s6
    have ss : 0 ≤ 8 * szM o - 1 ∧ 8 * szM o ≤ 32 := by rcases szo with z | z | z <;> omega
    refine ⟨_, rfl, (by show 2 ≤ sizeLine; decide), fun nl hnl => ?_⟩
    have s7 := Same.tr s6 (same_new (o := .tup [.str "lb", .str "lh"]) hnl)
    refine ⟨nl, _, rfl, Or.inr (SqT.of upd_same), rfl, rfl, ?_⟩
    have S7 := S.same s7
    clear s6 S6
    generalize upd H6 nl (.tup [.str "lb", .str "lh"]) = A7 at *
    by_cases n1 : sgT o = true
    · refine ⟨_, rfl, if_true_of n1 ?_⟩
      refine ⟨_, rfl, _, rfl, _, _, rfl, rfl, Or.inl ⟨by omega, by omega⟩, _, _, rfl, rfl, _, _, rfl, rfl, ⟨by omega, by omega, by decide⟩, _, _, rfl, rfl, _, rfl, ?_⟩
      by_cases n2 : (1 * 2 ^ (8 * szM o - 1).toNat : Int) ≤ fd
      · refine if_true_of (decide_eq_true n2) ?_
        have e6 := ld_yes ho z sh wr2 n1 (by rw [hF]; exact n2)
        rw [hF] at e6
        refine ⟨_, rfl, _, _, rfl, rfl, _, rfl, _, _, rfl, rfl, Or.inl ⟨by omega, by omega⟩, _, _, rfl, rfl, ⟨by omega, by omega, by decide⟩, _, _, rfl, rfl, ?_⟩
        refine ⟨_, rfl, x, C, dx, _, _, rfl, S7.M.at_, T.cls S.M.cl, T.na S.M.cl mf_registers, lk_registers _, m.rg, _, 6, _, rfl, rfl, SqL.of S7.M.rg, regs_at (by decide) (by rw [S7.M.ln]; decide), _, rfl, rfl, _, rfl, if_false_of (ne_false (by rw [L1, e6]; rfl)) ?_⟩
        refine ⟨_, rfl, x, C, dx, _, _, rfl, S7.M.at_, T.cls S.M.cl, T.na S.M.cl mf_pc, lk_pc _, _, rfl, _, _, rfl, rfl, rfl, _, rfl, if_false_of (ne_false (by rw [S7.pc]; exact L2)) ?_⟩
        exact (nxt _ _ ⟨_, _, _, _, _, rfl⟩ s7).2
      · refine if_false_of (decide_eq_false n2) ?_
        have e6 := ld_no ho z sh wr2 (fun y => n2 (by rw [hF] at y; exact y.2))
        rw [hF] at e6
        refine ⟨_, rfl, x, C, dx, _, _, rfl, S7.M.at_, T.cls S.M.cl, T.na S.M.cl mf_registers, lk_registers _, m.rg, _, 6, _, rfl, rfl, SqL.of S7.M.rg, regs_at (by decide) (by rw [S7.M.ln]; decide), _, rfl, rfl, _, rfl, if_false_of (ne_false (by rw [L1, e6]; rfl)) ?_⟩
        refine ⟨_, rfl, x, C, dx, _, _, rfl, S7.M.at_, T.cls S.M.cl, T.na S.M.cl mf_pc, lk_pc _, _, rfl, _, _, rfl, rfl, rfl, _, rfl, if_false_of (ne_false (by rw [S7.pc]; exact L2)) ?_⟩
        exact (nxt _ _ ⟨_, _, _, _, _, rfl⟩ s7).2
    · refine ⟨_, rfl, if_false_of (Bool.eq_false_iff.mpr n1) ?_⟩
      have e6 := ld_no ho z sh wr2 (fun y => n1 y.1)
      rw [hF] at e6
      refine ⟨_, rfl, x, C, dx, _, _, rfl, S7.M.at_, T.cls S.M.cl, T.na S.M.cl mf_registers, lk_registers _, m.rg, _, 6, _, rfl, rfl, SqL.of S7.M.rg, regs_at (by decide) (by rw [S7.M.ln]; decide), _, rfl, rfl, _, rfl, if_false_of (ne_false (by rw [L1, e6]; rfl)) ?_⟩
      refine ⟨_, rfl, x, C, dx, _, _, rfl, S7.M.at_, T.cls S.M.cl, T.na S.M.cl mf_pc, lk_pc _, _, rfl, _, _, rfl, rfl, rfl, _, rfl, if_false_of (ne_false (by rw [S7.pc]; exact L2)) ?_⟩
      exact (nxt _ _ ⟨_, _, _, _, _, rfl⟩ s7).2
theorem law_cM4 (T : Txt K mg w) (G__law_next : Gd P w K mg base CX0 3 "_law_next" ["draw", "bound"] (sp__law_next K)) (G__law_pick : Gd P w K mg base CX0 4 "_law_pick" ["draw", "things"] (sp__law_pick K)) (G__law_image : Gd P w K mg base CX0 5 "_law_image" ["rows", "words", "stack", "base"] (sp__law_image K)) (G_data_start : Gd P w K mg base CX0 2 "data_start" ["image"] (sp_data_start K)) (G_stack_start : Gd P w K mg base CX0 3 "stack_start" ["image"] (sp_stack_start K)) (G_Processor___init__ : Gm P w K mg base CX0 6 (He.ga K "Processor") "__init__" ["self", "image", "inputs"] (sp_Processor___init__ K)) (G_ReadyMachine___init__ : Gm P w K mg base CX0 7 (He.ga K "ReadyMachine") "__init__" ["self", "image", "inputs"] (sp_ReadyMachine___init__ K)) (G_Machine_step : Gm P w K mg base CX0 5 (He.ga K "Machine") "step" ["self"] (sp_Machine_step K)) (G_ReadyMachine_step : Gm P w K mg base CX0 5 (He.ga K "ReadyMachine") "step" ["self"] (sp_ReadyMachine_step K)) (G_Machine_field_at : Gm P w K mg base CX0 2 (He.ga K "Machine") "field_at" ["self", "address"] (sp_Machine_field_at K)) (G_ReadyMachine_field_at : Gm P w K mg base CX0 2 (He.ga K "ReadyMachine") "field_at" ["self", "address"] (sp_ReadyMachine_field_at K)) {f : Addr} {cdv : Value} {A : Around} {outer : List Env} {s : Shared} {H : Hp} {Q : VK} {E : XK} (hr : Room 8 (A.deeper (envOfC ("law" : Str) (defScope s_law) s.heap.objs.size f cdv))) (sl : Addr) (c : ∃ t, PSs ((cxOf CX0 P w K mg base ["script", "draw", "sizes", "words", "turn", "many", "stack", "base", "row", "image", "held", "places", "size", "bytes_told", "machine", "name", "offset", "goal", "word", "late", "address", "at", "found", "byte", "step"] ("law" : Str) (defScope s_law) f cdv A outer s H E).nox) (machB.drop 7) t ∧ ∀ (D : L2.Ends) σ H1, PS4 K sl D σ H1 → t D σ H1) : ∃ t, PSs ((cxOf CX0 P w K mg base ["script", "draw", "sizes", "words", "turn", "many", "stack", "base", "row", "image", "held", "places", "size", "bytes_told", "machine", "name", "offset", "goal", "word", "late", "address", "at", "found", "byte", "step"] ("law" : Str) (defScope s_law) f cdv A outer s H E).nox) (machB.drop 5) t ∧ ∀ (D : L2.Ends) σ H1, PS3 K sl D σ H1 → t D σ H1 := by
  have sc := sc_law
  obtain ⟨tt, ht, hq⟩ := c
  refine ⟨_, (pss_cons (ps_set (i := 19) sc.nd rfl (Or.inr rfl) (pe_callTy call_dictD (by rfl) T.n_dict (by decide +kernel) (pa_cons (pv 10) pa_nil)))
      (pss_cons (ps_expr (pe_bm PySem.F.plainAttrs_dict PySem.F.slot_dict_update PySem.F.type_dict_update Ki.mt_upd (pv 19) (pa_cons (pe_callTy (call_dictP rfl) (by rfl) T.n_dict (by decide +kernel) (pa_cons (pe_lc (own := [("at", 21)]) (g := gName 21) (by rfl) sc.nd (pi_range1 rfl T.n_range (pa_cons (pv 12) pa_nil)) (blkOk_by (own := [("at", 21)]) (N := ["script", "draw", "sizes", "words", "turn", "many", "stack", "base", "row", "image", "held", "places", "size", "bytes_told", "machine", "name", "offset", "goal", "word", "late", "address", "at", "found", "byte", "step"]) (sc := defScope s_law) (by decide +kernel)) (fun _ _ _ _ _ => (pg_name (i := 21) sc.nd rfl (Or.inl rfl))) (fun _ _ _ _ _ => pts_nil) (fun _ _ _ _ _ => (pe_tup (pa_cons (pe_op op_add (pv 17) (pv 21)) (pa_cons (pe_op op_and (pe_op op_shr (pv 18) (pe_op op_mul pe_int (pv 21))) pe_int) pa_nil))))) pa_nil)) pa_nil)))
      ht)), fun D σ Hq p => ?_⟩
  obtain ⟨d, zD, W, im, hA, BL, x, C, dx, m, mm, dat, kvs, q, r, off, goal, word, o, v4, v8, v11, v19, v20, v21, v22, rfl, S, oM, oW, ms, N, ho, z, f0, f1, ⟨b, k, hp⟩, eA, M, eB, gr, wr, nxt⟩ := p
  have szo := szM_ok ho
  have hm := held_mem ms oM oW N
  obtain ⟨p1, p2, p3, _⟩ := plc_some oM oW szo hp
  have n4 : 0 < szM o ∧ szM o ≤ 4 := by rcases szo with z | z | z <;> omega
  obtain ⟨o2, w2, hst⟩ := stM_store (off := off) (word := word) (fun y => z (of_decide_eq_true y)) gr hp oM oW ho
  refine ⟨_, rfl, hA, kvs, rfl, .inl eA, fun lA hlA => ?_⟩
  have s1 := same_new (o := .dK kvs) hlA
  have e1 : upd Hq lA (.dK kvs) lA = some (.dK kvs) := upd_same
  have nL : ∀ b ob, Hq b = some ob → b ≠ lA := fun b ob e => ne_of_none e hlA
  clear hlA
  generalize upd Hq lA (.dK kvs) = A1 at *
  refine ⟨_, rfl, Or.inr (Or.inr (Or.inl ⟨rfl, Or.inl ⟨_, e1⟩⟩)), ?_⟩
  refine ⟨_, rfl, szM o, rfl, by omega, by omega, fun D2 hD2 => ?_⟩
  refine lc_range (n := (szM o).toNat) (fun i H' => Same A1 H' ∧ PrAt K H' D2 goal (fun i => byte word (i : Int)) i) ⟨same_new hD2, PrAt.nil upd_same⟩ ?_ ?_
  · rintro j H3 hj ⟨sq, pr⟩
    refine ⟨rfl, ?_⟩
    dsimp only [tYes]
    rw [if_pos rfl]
    refine ⟨_, rfl, _, rfl, _, _, rfl, rfl, _, rfl, _, rfl, _, _, rfl, rfl, Or.inl ⟨by omega, by omega⟩, _, _, rfl, rfl, (by show 0 ≤ 8 * (0 + (j : Int)); omega), _, _, rfl, rfl, (by show 2 ≤ sizeLine; decide), fun p hp => ?_⟩
    have ev : bitAnd (word / 2 ^ (8 * (0 + (j : Int))).toNat) 255 = byte word (j : Int) := by rw [B6.m8, show 0 + (j : Int) = (j : Int) by omega]; rfl
    have et : upd H3 p (.tup [.int (goal + (0 + (j : Int))), .int (bitAnd (word / 2 ^ (8 * (0 + (j : Int))).toNat) 255)]) p = some (.tup [.int (goal + (j : Int)), .int (byte word (j : Int))]) := by rw [upd_same, ev, show 0 + (j : Int) = (j : Int) by omega]
    obtain ⟨acc, a1, a2, a3⟩ := (pr.same (same_new hp)).snoc et
    refine ⟨acc, a1, tup_lt (by omega), fun x u e => ?_, a3⟩
    rw [upd_ne (ne_of_none e hD2)]
    exact same_new hp _ _ (sq _ _ e)
  rintro H3 ⟨sq, ps, p1', p2', p3'⟩
  refine ⟨D2, ps, _, rfl, SqL.of p2', p3', fun hB hhB => ?_⟩
  rw [show mergeK [] (runK goal (fun i => byte word (i : Int)) (szM o).toNat) = runK goal (fun i => byte word (i : Int)) (szM o).toNat from merge_run _ _ _]
  have s3 := Same.tr sq (same_new (o := .dK (runK goal (fun i => byte word (i : Int)) (szM o).toNat)) hhB)
  have neAB : lA ≠ hB := ne_of_none (sq _ _ e1) hhB
  have M3 := M.runIn goal (fun i => byte word (i : Int)) (szM o).toNat (fun i hi => by rw [hm, p3 (i : Int) (by omega) (by omega)]; rfl)
  have lk1 := M.len
  have lk2 := runK_len goal (fun i => byte word (i : Int)) (szM o).toNat
  refine ⟨lA, hB, kvs, _, rfl, rfl, neAB, s3 _ _ e1, upd_same, Nat.le_of_lt (tup_lt (by omega)), ?_⟩
  have sF : Same Hq (upd (upd H3 hB (.dK (runK goal (fun i => byte word (i : Int)) (szM o).toNat))) lA (.dK (mergeK kvs (runK goal (fun i => byte word (i : Int)) (szM o).toNat)))) := fun b ob e => by rw [upd_ne (nL b ob e)]; exact s3 _ _ (s1 _ _ e)
  refine hq D _ _ ⟨d, zD, W, im, hA, BL, x, C, dx, lA, m, mm, dat, kvs, _, q, r, off, goal, word, o, _, _, _, _, _, _, rfl, S.same sF, o2, w2, upd_same, M3.congr (fun j => ?_) (Nat.le_refl _), fun σ' H' hs bt => nxt σ' H' hs (Same.tr sF bt)⟩
  rw [hst j]
  unfold runF
  by_cases cj : goal ≤ j ∧ j < goal + szM o
  · rw [if_pos cj, if_pos (by omega)]
    show some (byte word (((j - goal).toNat : Nat) : Int)) = _
    rw [show (((j - goal).toNat : Nat) : Int) = j - goal by omega]
  · rw [if_neg cj, if_neg (by omega), hm]
theorem law_cM5 (T : Txt K mg w) (G__law_next : Gd P w K mg base CX0 3 "_law_next" ["draw", "bound"] (sp__law_next K)) (G__law_pick : Gd P w K mg base CX0 4 "_law_pick" ["draw", "things"] (sp__law_pick K)) (G__law_image : Gd P w K mg base CX0 5 "_law_image" ["rows", "words", "stack", "base"] (sp__law_image K)) (G_data_start : Gd P w K mg base CX0 2 "data_start" ["image"] (sp_data_start K)) (G_stack_start : Gd P w K mg base CX0 3 "stack_start" ["image"] (sp_stack_start K)) (G_Processor___init__ : Gm P w K mg base CX0 6 (He.ga K "Processor") "__init__" ["self", "image", "inputs"] (sp_Processor___init__ K)) (G_ReadyMachine___init__ : Gm P w K mg base CX0 7 (He.ga K "ReadyMachine") "__init__" ["self", "image", "inputs"] (sp_ReadyMachine___init__ K)) (G_Machine_step : Gm P w K mg base CX0 5 (He.ga K "Machine") "step" ["self"] (sp_Machine_step K)) (G_ReadyMachine_step : Gm P w K mg base CX0 5 (He.ga K "ReadyMachine") "step" ["self"] (sp_ReadyMachine_step K)) (G_Machine_field_at : Gm P w K mg base CX0 2 (He.ga K "Machine") "field_at" ["self", "address"] (sp_Machine_field_at K)) (G_ReadyMachine_field_at : Gm P w K mg base CX0 2 (He.ga K "ReadyMachine") "field_at" ["self", "address"] (sp_ReadyMachine_field_at K)) {f : Addr} {cdv : Value} {A : Around} {outer : List Env} {s : Shared} {H : Hp} {Q : VK} {E : XK} (hr : Room 8 (A.deeper (envOfC ("law" : Str) (defScope s_law) s.heap.objs.size f cdv))) (sl : Addr) : ∃ t, PSs ((cxOf CX0 P w K mg base ["script", "draw", "sizes", "words", "turn", "many", "stack", "base", "row", "image", "held", "places", "size", "bytes_told", "machine", "name", "offset", "goal", "word", "late", "address", "at", "found", "byte", "step"] ("law" : Str) (defScope s_law) f cdv A outer s H E).nox) (machB.drop 7) t ∧ ∀ (D : L2.Ends) σ H1, PS4 K sl D σ H1 → t D σ H1 := by
  have sc := sc_law
  refine ⟨_, (pss_one (ps_for PassesOwn.never rfl (pi_list (pe_callB (call_sortedDI rfl) (by rfl) T.n_sorted (by decide +kernel) (pa_cons (pv 19) pa_nil))) (pg_name (i := 20) sc.nd rfl (Or.inr rfl)) (pss_one (ps_if (pt_cmpR op_eq (pe_op op_mod (pv 20) pe_int) pe_int (nomark _)) (pss_cons (ps_asg (Mh.pe_or (pe_gm (pv 14) T.cl_Machine.c G_Machine_field_at (hr.mono (by omega)) pass0 (pa_cons (pv 20) pa_nil)) (pe_gm (pv 14) T.cl_ReadyMachine.c G_ReadyMachine_field_at (hr.mono (by omega)) pass0 (pa_cons (pv 20) pa_nil))) (pg_tup rfl (pgs_cons (pg_name (i := 8) sc.nd rfl (Or.inl rfl)) (pgs_cons (pg_name (i := 21) sc.nd rfl (Or.inl rfl)) pgs_nil))))
      (pss_one (ps_if (pt_cmpR op_ne (pe_ix ix_list (pv 8) (pv 21) (fun _ _ => rfl)) (pe_callB (cr_sum rfl) (by rfl) T.n_sum (by decide +kernel) (pa_cons (pe_lc (own := [("step", 24)]) (g := gName 24) (by rfl) sc.nd (pi_range1 rfl T.n_range (pa_cons pe_int pa_nil)) (blkOk_by (own := [("step", 24)]) (N := ["script", "draw", "sizes", "words", "turn", "many", "stack", "base", "row", "image", "held", "places", "size", "bytes_told", "machine", "name", "offset", "goal", "word", "late", "address", "at", "found", "byte", "step"]) (sc := defScope s_law) (by decide +kernel)) (fun _ _ _ _ _ => (pg_name (i := 24) sc.nd rfl (Or.inl rfl))) (fun _ _ _ _ _ => pts_nil) (fun _ _ _ _ _ => (pe_op op_shl (pe_dget (hu_of hr) (pv 19) (pe_op op_add (pv 20) (pv 24)) (fun _ _ => rfl)) (pe_op op_mul pe_int (pv 24))))) pa_nil)) (nomark _)) (pss_one (ps_ret pe_bl)) pss_nil))) pss_nil)))), fun D σ Hq p => ?_⟩
  obtain ⟨d, zD, W, im, hA, BL, x, C, dx, lA, m, mm, dat, kvs, k2, q, r, off, goal, word, o, v4, v8, v11, v20, v21, v22, rfl, S, oM, oW, eL, M, nxt⟩ := p
  generalize stM mm (cdM o off) dat q r off goal word = sf at *
  obtain ⟨ks, m1, m2, m3⟩ := M.ks
  refine ⟨_, rfl, lA, k2, ks, rfl, .inl eL, m1, by omega, fun ys Sa hperm _ hS => ?_⟩
  have yl : ys.length ≤ 60 := by have := hperm.length_eq; omega
  have s1 := same_new (o := .lst (ys.map V.int)) hS
  have eS : upd Hq Sa (.lst (ys.map V.int)) Sa = some (.lst (ys.map V.int)) := upd_same
  clear hS
  generalize upd Hq Sa (.lst (ys.map V.int)) = A1 at *
  refine ⟨Sa, rfl, ⟨_, SqL.of eS⟩, ?_⟩
  refine for_list (K := K) (a := Sa) (xs := ys.map V.int) (fun i' σ H' => (∃ u8 u20 u21 : Option V, σ = [some (.ref sl), some (.ref d), some (.ref zD), some (.ref W), v4, some (.int (dat.length : Int)), some (.int (16 * q)), some (.int (16 * r)), u8, some (.ref im), some (.ref hA), v11, some (.int (szM o)), some (.ref BL), some (.ref x), some (.str (nm o)), some (.int off), some (.int goal), some (.int word), some (.ref lA), u20, u21, v22, none, none]) ∧ Same Hq H' ∧ H' Sa = some (.lst (ys.map V.int))) ⟨⟨_, _, _, rfl⟩, s1, eS⟩ (fun i' σ H' _ p => SqL.of p.2.2) ?_ ?_
  · rintro i' x' σ H2 hx' ⟨⟨u8, u20, u21, rfl⟩, sq, eS2⟩
    rw [List.getElem?_map] at hx'
    cases e : ys[i']? with
    | none => rw [e] at hx'; cases hx'
    | some ad =>
      rw [e] at hx'
      cases hx'
      have hin := (m3 ad).mp (hperm.mem_iff.mp (List.mem_of_getElem? e))
      refine ⟨_, rfl, _, _, rfl, rfl, (by show (0 : Int) < 4; decide), rfl, _, rfl, ?_⟩
      by_cases c4 : ad % 4 = 0
      rotate_left
      · refine if_false_of (decide_eq_false (fun z => c4 (by injection z))) ?_
        exact ⟨⟨_, _, _, rfl⟩, sq, eS2⟩
      · refine if_true_of (decide_eq_true (congrArg V.int c4)) ?_
        obtain ⟨b, k, b0, b1, b2, b3, hp, _⟩ := plc_word oM oW c4 hin
        obtain ⟨p1, p2, p3, _⟩ := plc_some oM oW (.inr (.inr rfl)) hp
        have cr := cell_rng oW b k.toNat
        change tFieldM K _ H2 _
        refine field_ofM (S.same sq) rfl rfl fun H3 pt s3 e3 => ?_
        have pv : plcV mm ad 4 = [.ref (if b = true then mm.sa else mm.da), .int k] := by unfold plcV; rw [hp]; cases b <;> rfl
        rw [pv] at e3
        have sq3 := Same.tr sq s3
        obtain ⟨h1, h2⟩ := cell_at oM (S.same sq3) hp (.inr (.inr rfl))
        generalize (cells sf b).getD k.toNat 0 = cw at *
        refine ⟨pt, [.ref (if b = true then mm.sa else mm.da), .int k], rfl, SqT.of e3, rfl, _, _, rfl, _, _, rfl, rfl, ?_⟩
        refine ⟨_, rfl, _, rfl, _, _, k, .int cw, rfl, rfl, SqL.of h1, h2, ?_⟩
        refine ⟨4, rfl, by decide, by decide, fun l hl => ?_⟩
        refine lc_range (n := 4) (fun i H' => Same H3 H' ∧ H' l = some (.lst ((shB cw 0 i).map V.int))) ⟨same_new hl, upd_same⟩ ?_ ?_
        · rintro j H4 hj ⟨sj, ej⟩
          refine ⟨rfl, ?_⟩
          dsimp only [tYes]
          rw [if_pos rfl]
          have hv : valV k2 (.inl (ad + (0 + (j : Int)))) = some (.int (byte cw (0 + (j : Int)))) := by
            have e9 := p3 (j : Int) (by omega) (by omega)
            rw [M.v, show ad + (0 + (j : Int)) = ad + (j : Int) by omega, e9, c4]; rfl
          have g : DGet H4 lA (.int (ad + (0 + (j : Int)))) (some (.int (byte cw (0 + (j : Int))))) := .inl ⟨k2, .inl (ad + (0 + (j : Int))), .inl (sj _ _ (sq3 _ _ eL)), rfl, hv.symm⟩
          have hw := byte_rng cw (0 + (j : Int))
          refine ⟨_, rfl, _, rfl, _, rfl, _, _, rfl, rfl, lA, _, rfl, g, ?_⟩
          refine ⟨_, rfl, _, _, rfl, rfl, Or.inl ⟨by omega, by omega⟩, _, _, rfl, rfl, ⟨by omega, by omega, by omega⟩, ?_⟩
          refine ⟨_, ej, (by rw [List.length_map]; unfold shB; rw [List.length_map, List.length_range]; exact tup_lt (by omega)), fun x u e => ?_, ?_⟩
          · rw [upd_ne (ne_of_none e hl)]; exact sj _ _ e
          · rw [upd_same, shB_succ, List.map_append, show 8 * (0 + (j : Int)) = 8 * (j : Int) by omega]
            rfl
        rintro H4 ⟨sj, ej⟩
        refine ⟨l, shB cw 0 4, rfl, SqL.of ej, ?_⟩
        rw [shB4 cr]
        refine ⟨rfl, _, rfl, if_false_of (ne_false rfl) ?_⟩
        exact ⟨⟨_, _, _, rfl⟩, Same.tr sq3 sj, sj _ _ (s3 _ _ eS2)⟩
  · rintro σ H2 ⟨⟨u8, u20, u21, rfl⟩, sq, _⟩
    exact (nxt _ _ ⟨_, _, _, _, _, rfl⟩ sq).1
theorem g_law (T : Txt K mg w) (G__law_next : Gd P w K mg base CX0 3 "_law_next" ["draw", "bound"] (sp__law_next K)) (G__law_pick : Gd P w K mg base CX0 4 "_law_pick" ["draw", "things"] (sp__law_pick K)) (G__law_image : Gd P w K mg base CX0 5 "_law_image" ["rows", "words", "stack", "base"] (sp__law_image K)) (G_data_start : Gd P w K mg base CX0 2 "data_start" ["image"] (sp_data_start K)) (G_stack_start : Gd P w K mg base CX0 3 "stack_start" ["image"] (sp_stack_start K)) (G_Processor___init__ : Gm P w K mg base CX0 6 (He.ga K "Processor") "__init__" ["self", "image", "inputs"] (sp_Processor___init__ K)) (G_ReadyMachine___init__ : Gm P w K mg base CX0 7 (He.ga K "ReadyMachine") "__init__" ["self", "image", "inputs"] (sp_ReadyMachine___init__ K)) (G_Machine_step : Gm P w K mg base CX0 5 (He.ga K "Machine") "step" ["self"] (sp_Machine_step K)) (G_ReadyMachine_step : Gm P w K mg base CX0 5 (He.ga K "ReadyMachine") "step" ["self"] (sp_ReadyMachine_step K)) (G_Machine_field_at : Gm P w K mg base CX0 2 (He.ga K "Machine") "field_at" ["self", "address"] (sp_Machine_field_at K)) (G_ReadyMachine_field_at : Gm P w K mg base CX0 2 (He.ga K "ReadyMachine") "field_at" ["self", "address"] (sp_ReadyMachine_field_at K)) : Gd P w K mg base CX0 9 "law" ["script"] (sp_law K) := by
  have sc := sc_law
  refine T.d_law.ok sc len1 (fun _ _ _ _ _ _ us hl => match us, hl with | [_], _ => rfl) (fun f cdv A outer s H vs Q E hr h => ?_)
  obtain ⟨x0, rfl, h⟩ := h
  obtain ⟨sl, ns0, rfl, hS, h⟩ := h
  have m5 := law_cM5 (base := base) T G__law_next G__law_pick G__law_image G_data_start G_stack_start G_Processor___init__ G_ReadyMachine___init__ G_Machine_step G_ReadyMachine_step G_Machine_field_at G_ReadyMachine_field_at (f := f) (cdv := cdv) (A := A) (outer := outer) (s := s) (H := H) (Q := Q) (E := E) hr sl
  have m4 := law_cM4 (base := base) T G__law_next G__law_pick G__law_image G_data_start G_stack_start G_Processor___init__ G_ReadyMachine___init__ G_Machine_step G_ReadyMachine_step G_Machine_field_at G_ReadyMachine_field_at (f := f) (cdv := cdv) (A := A) (outer := outer) (s := s) (H := H) (Q := Q) (E := E) hr sl m5
  have m3 := law_cM3 (base := base) T G__law_next G__law_pick G__law_image G_data_start G_stack_start G_Processor___init__ G_ReadyMachine___init__ G_Machine_step G_ReadyMachine_step G_Machine_field_at G_ReadyMachine_field_at (f := f) (cdv := cdv) (A := A) (outer := outer) (s := s) (H := H) (Q := Q) (E := E) hr sl m4
  have m2 := law_cM2 (base := base) T G__law_next G__law_pick G__law_image G_data_start G_stack_start G_Processor___init__ G_ReadyMachine___init__ G_Machine_step G_ReadyMachine_step G_Machine_field_at G_ReadyMachine_field_at (f := f) (cdv := cdv) (A := A) (outer := outer) (s := s) (H := H) (Q := Q) (E := E) hr sl m3
  have m1 := law_cM1 (base := base) T G__law_next G__law_pick G__law_image G_data_start G_stack_start G_Processor___init__ G_ReadyMachine___init__ G_Machine_step G_ReadyMachine_step G_Machine_field_at G_ReadyMachine_field_at (f := f) (cdv := cdv) (A := A) (outer := outer) (s := s) (H := H) (Q := Q) (E := E) hr sl m2
  have b9 := law_cM (base := base) T G__law_next G__law_pick G__law_image G_data_start G_stack_start G_Processor___init__ G_ReadyMachine___init__ G_Machine_step G_ReadyMachine_step G_Machine_field_at G_ReadyMachine_field_at (f := f) (cdv := cdv) (A := A) (outer := outer) (s := s) (H := H) (Q := Q) (E := E) hr sl m1
  have b6 := law_cB3 (base := base) T G__law_next G__law_pick G__law_image G_data_start G_stack_start G_Processor___init__ G_ReadyMachine___init__ G_Machine_step G_ReadyMachine_step G_Machine_field_at G_ReadyMachine_field_at (f := f) (cdv := cdv) (A := A) (outer := outer) (s := s) (H := H) (Q := Q) (E := E) hr sl b9
  have b3 := law_cB2 (base := base) T G__law_next G__law_pick G__law_image G_data_start G_stack_start G_Processor___init__ G_ReadyMachine___init__ G_Machine_step G_ReadyMachine_step G_Machine_field_at G_ReadyMachine_field_at (f := f) (cdv := cdv) (A := A) (outer := outer) (s := s) (H := H) (Q := Q) (E := E) hr sl b6
  have b0 := law_cB1 (base := base) T G__law_next G__law_pick G__law_image G_data_start G_stack_start G_Processor___init__ G_ReadyMachine___init__ G_Machine_step G_ReadyMachine_step G_Machine_field_at G_ReadyMachine_field_at (f := f) (cdv := cdv) (A := A) (outer := outer) (s := s) (H := H) (Q := Q) (E := E) hr sl b3
  have c5 := law_cR (base := base) T G__law_next G__law_pick G__law_image G_data_start G_stack_start G_Processor___init__ G_ReadyMachine___init__ G_Machine_step G_ReadyMachine_step G_Machine_field_at G_ReadyMachine_field_at (f := f) (cdv := cdv) (A := A) (outer := outer) (s := s) (H := H) (Q := Q) (E := E) hr sl h
  have c4 := law_cL (base := base) T G__law_next G__law_pick G__law_image G_data_start G_stack_start G_Processor___init__ G_ReadyMachine___init__ G_Machine_step G_ReadyMachine_step G_Machine_field_at G_ReadyMachine_field_at (f := f) (cdv := cdv) (A := A) (outer := outer) (s := s) (H := H) (Q := Q) (E := E) hr sl b0 c5
  have c0 := law_cA (base := base) T G__law_next G__law_pick G__law_image G_data_start G_stack_start G_Processor___init__ G_ReadyMachine___init__ G_Machine_step G_ReadyMachine_step G_Machine_field_at G_ReadyMachine_field_at (f := f) (cdv := cdv) (A := A) (outer := outer) (s := s) (H := H) (Q := Q) (E := E) hr sl c4
  obtain ⟨t, a, b⟩ := c0
  exact ⟨t, a, b _ _ ⟨ns0, rfl, hS⟩⟩
end
end K82


namespace K82
open PySem PySem.Spec PyProof.Rows L2 My Ru I6
theorem law_binds {K : PySem.W.Frag} {f : Addr} {fd : FuncData} (F : FunD K "law" "law" (defArgs s_law) (defBody s_law) (defScope s_law) [] [] f fd) (s : Shared) (v : Value) : BindsTo s fd ⟨[v], []⟩ [("script", v)] :=
  L2.FunD.bindsA (ps := ["script"]) F (fun _ _ _ _ _ _ us hl => match us, hl with | [_], _ => rfl) s [v] rfl
theorem law_core {P : Program} {w : World} {K : PySem.W.Frag} {mg : Str → Option Value} {h : Heap} {fa : Addr} {L : Nat} (T : Txt K mg w) (KX : K.In h) (hmg : mg ("law" : PySem.Str) = some (.ref fa))
    (ok : ∀ base : Heap, Gd P w K mg base CX0 L "law" ["script"] (sp_law K)) :
    ∃ (K : PySem.W.Frag) (fd : FuncData) (sp : Sp), K.In h ∧ (∀ (s : Shared) (u : Value), BindsTo s fd ⟨[u], []⟩ [(("script" : PySem.Str), u)]) ∧
        (∀ (H : Hp) (a : Addr) (ns : List Int), ns.length ≤ 63 → Only H → SqL K H a (ns.map V.int) → sp [.ref a] H (fun v _ => v = .bl true) fun _ _ _ => False) ∧
        ∀ base : Heap, K.In base → base.Ns mainGlobals mg → FnOk P w K mg base CX0 L fa fd ["script"] sp := by
  obtain ⟨f, fd, hm, F⟩ := T.d_law.ex
  have ef : f = fa := by
    rw [hmg] at hm
    injection hm with hm
    injection hm with hm
    exact hm.symm
  subst ef
  refine ⟨K, fd, sp_law K, KX, law_binds F, fun H a ns hl _ hS => ⟨_, rfl, a, ns, rfl, hS, fun _ => rfl⟩, fun base _ _ => ?_⟩
  obtain ⟨f', fd', hm', ok, _, _, oc', od', osl', lk'⟩ := (ok base).ex
  have ef : f' = f := by
    rw [hmg] at hm'
    injection hm' with hm'
    injection hm' with hm'
    exact hm'.symm
  subst ef
  obtain ⟨oc, od, dV, kV, doc, pm, an, cdv, ct, osl, _, lk, _⟩ := F.ex
  rw [lk'] at lk
  have ed : fd' = fd := by
    injection lk with lk
    injection lk with _ _ lk _
    injection lk with lk
  rw [← ed]
  exact ok
end K82

namespace K82E
open PySem PySem.Spec PyProof.Rows L2 My Ru I6 K82
theorem dds_mem {o : Nat} (h : isDd o = true) : o ∈ dds := by
  rcases dd_all h with rfl | rfl | rfl | rfl | rfl | rfl | rfl | rfl <;> decide
section
variable {P : Program} {w : World} {K : PySem.W.Frag} {h : Heap} {mg : Str → Option Value}
theorem df_mk (X : K.In h) (G : h.Ns mainGlobals mg) {x : Str} {st : Stmt} (c1 : (He.Fa.glo x).ok K = true) (c2 : ∃ fd, FunD K x x (defArgs st) (defBody st) (defScope st) [] [] (He.fAd K (x, none)) fd) : Df K mg x st := by
  obtain ⟨fd, F⟩ := c2
  exact ⟨He.ga K x, fd, He.glo_ok X G c1, F⟩
theorem dm_mk {C m qual : Str} {st : Stmt} (c1 : (He.Fa.meth C m).ok K = true) (c2 : ∃ fd, FunD K m qual (defArgs st) (defBody st) (defScope st) [] [] (He.fAd K (C, some m)) fd) : Dm K (He.ga K C) m qual st := by
  obtain ⟨fd, F⟩ := c2
  exact ⟨He.ma K (He.ga K C) m, fd, He.meth_ok c1, F⟩
theorem bf_mk (X : K.In h) (G : h.Ns mainGlobals mg) (c1 : (He.Fa.glo "BadForm").ok K = true) (c2 : ∃ fd, FunD K "__init__" "BadForm.__init__" (defArgs s_BadForm___init__) (defBody s_BadForm___init__) (defScope s_BadForm___init__) [] [] (He.fAd K ("BadForm", some "__init__")) fd) (c3 : bfB K (He.ga K "BadForm") = true) : Bf.BfTxt K mg (He.ga K "BadForm") (He.ma K (He.ga K "BadForm") "__init__") := by
  obtain ⟨h1, c3⟩ := He.ba c3
  obtain ⟨h2, c3⟩ := He.ba c3
  obtain ⟨h3, c3⟩ := He.ba c3
  obtain ⟨h4, c3⟩ := He.ba c3
  obtain ⟨h5, c3⟩ := He.ba c3
  obtain ⟨h6, c3⟩ := He.ba c3
  obtain ⟨h7, c3⟩ := He.ba c3
  obtain ⟨h9, c3⟩ := He.ba c3
  obtain ⟨h10, c3⟩ := He.ba c3
  obtain ⟨h11, c3⟩ := He.ba c3
  obtain ⟨h12, c3⟩ := He.ba c3
  obtain ⟨h13, c3⟩ := He.ba c3
  obtain ⟨h14, h15⟩ := He.ba c3
  obtain ⟨fd, F⟩ := c2
  obtain ⟨oc, od, dV, kV, doc, pm, an, cdv, ct, osl, e, lk, hcd, hD, _⟩ := F.ex
  have hdV : dV = .none := by
    rcases hD with ⟨_, z⟩ | ⟨z, _⟩
    · exact z
    · exact absurd rfl z
  subst hdV e
  refine { gC := He.glo_ok X G c1, exI := h1, over := h2, cd := ?_, sa := He.eqO_ok h4, ga := He.eqO_ok h5, gg := He.eqO_ok h6, noT := He.eqO_ok h7, iC := He.eqO_ok h9, tC := of_decide_eq_true h10, kC := h11, exC := of_decide_eq_true h12, tyC := of_decide_eq_true h13, hdC := h14, te := of_decide_eq_true h15, fn := ?_ }
  · cases e : PySem.W.clsIn K (He.ga K "BadForm") with
    | none => rw [e] at h3; cases h3
    | some cd => rw [e] at h3; exact ⟨cd, rfl, h3⟩
  · exact ⟨oc, od, kV, doc, pm, an, cdv, ct, osl, _, _, _, _, _, _, lk, hcd⟩
theorem txt_mk (X : K.In h) (G : h.Ns mainGlobals mg) (c : He.SaysX hfa hfn hts [] hex w h K) : Txt K mg w := by
  have cd := c.t.d
  have cx : hex K = true := c.more
  obtain ⟨v0, cx⟩ := He.ba cx
  obtain ⟨v1, cx⟩ := He.ba cx
  obtain ⟨v2, cx⟩ := He.ba cx
  obtain ⟨v3, cx⟩ := He.ba cx
  obtain ⟨v4, cx⟩ := He.ba cx
  obtain ⟨v5, cx⟩ := He.ba cx
  obtain ⟨v6, cx⟩ := He.ba cx
  obtain ⟨v7, cx⟩ := He.ba cx
  obtain ⟨v8, cx⟩ := He.ba cx
  obtain ⟨v9, cx⟩ := He.ba cx
  obtain ⟨v10, cx⟩ := He.ba cx
  obtain ⟨v11, cx⟩ := He.ba cx
  obtain ⟨v12, cx⟩ := He.ba cx
  obtain ⟨v13, cx⟩ := He.ba cx
  obtain ⟨v14, cx⟩ := He.ba cx
  obtain ⟨v15, cx⟩ := He.ba cx
  obtain ⟨v16, cx⟩ := He.ba cx
  obtain ⟨v17, cx⟩ := He.ba cx
  obtain ⟨v18, cx⟩ := He.ba cx
  have kvW : ∀ f, KDct K w (He.ga K "WRITERS") (foS f) (.ref (He.ga K (wnm f))) := by
    intro f
    obtain ⟨es, nn, kd⟩ := c.t.tab 1 (t := (fun K => He.ga K "WRITERS", ["three", "number", "shift", "store", "branch", "upper", "jump", "whole"])) rfl
    obtain ⟨u, e1, e2⟩ := He.valsB_ok v2 (q := (foS f, He.Dv.glo (wnm f))) (List.mem_map.mpr ⟨f, allF_mem f, rfl⟩)
    exact ⟨es, nn, u, kd.at_, kd.lit, e1, e2⟩
  have kvR : ∀ f, KDct K w (He.ga K "READERS") (foS f) (.ref (He.ga K (rnm f))) := by
    intro f
    obtain ⟨es, nn, kd⟩ := c.t.tab 2 (t := (fun K => He.ga K "READERS", ["three", "number", "shift", "store", "branch", "upper", "jump", "whole"])) rfl
    obtain ⟨u, e1, e2⟩ := He.valsB_ok v3 (q := (foS f, He.Dv.glo (rnm f))) (List.mem_map.mpr ⟨f, allF_mem f, rfl⟩)
    exact ⟨es, nn, u, kd.at_, kd.lit, e1, e2⟩
  have kvD : ∀ o, isDd o = true → KDct K w (He.ga K "DEEDS") (nm o) (.ref (He.ga K (dnm o))) := by
    intro o ho
    obtain ⟨es, nn, kd⟩ := c.t.tab 4 (t := (fun K => He.ga K "DEEDS", ((["add", "sub", "sll", "slt", "sltu", "xor", "srl", "sra", "or", "and", "mul", "mulh", "mulhsu", "mulhu", "div", "divu", "rem", "remu", "addi", "slti"] : List Str) ++ (["sltiu", "xori", "ori", "andi", "slli", "srli", "srai", "lb", "lh", "lw", "lbu", "lhu", "sb", "sh", "sw", "beq", "bne", "blt", "bge", "bltu"] : List Str) ++ (["bgeu", "lui", "auipc", "jal", "jalr", "ecall", "ebreak", "fence"] : List Str)))) rfl
    obtain ⟨u, e1, e2⟩ := He.valsB_ok v6 (q := (nm o, He.Dv.glo (dnm o))) (List.mem_map.mpr ⟨o, dds_mem ho, rfl⟩)
    exact ⟨es, nn, u, kd.at_, kd.lit, e1, e2⟩
  have kvS : ∀ o, isDd o = true → ∃ a, KDct K w (He.ga K "SIZES") (nm o) (.ref a) ∧ ∀ H : Hp, SqT K H a [.int (szM o), .bl (sgM o)] := by
    intro o ho
    obtain ⟨es, nn, kd⟩ := c.t.tab 3 (t := (fun K => He.ga K "SIZES", ["lb", "lh", "lw", "lbu", "lhu", "sb", "sh", "sw"])) rfl
    obtain ⟨a, e1, e2⟩ := Kg.entA_ok (List.all_eq_true.mp v17 o (dds_mem ho))
    exact ⟨a, ⟨es, nn, .ref a, kd.at_, kd.lit, e1, rfl⟩, e2⟩
  exact {
    d_word_of := df_mk X G (cd.fact 0 (f := .glo "word_of") rfl) (cd.def_ 0 (d := dd_word_of) rfl),
    d_is_number := df_mk X G (cd.fact 1 (f := .glo "is_number") rfl) (cd.def_ 1 (d := dd_is_number) rfl),
    d_encode := df_mk X G (cd.fact 2 (f := .glo "encode") rfl) (cd.def_ 2 (d := dd_encode) rfl),
    d__are_registers := df_mk X G (cd.fact 3 (f := .glo "_are_registers") rfl) (cd.def_ 3 (d := dd__are_registers) rfl),
    d__is_distance := df_mk X G (cd.fact 4 (f := .glo "_is_distance") rfl) (cd.def_ 4 (d := dd__is_distance) rfl),
    d__write_three := df_mk X G (cd.fact 5 (f := .glo "_write_three") rfl) (cd.def_ 5 (d := dd__write_three) rfl),
    d__write_number := df_mk X G (cd.fact 6 (f := .glo "_write_number") rfl) (cd.def_ 6 (d := dd__write_number) rfl),
    d__write_store := df_mk X G (cd.fact 7 (f := .glo "_write_store") rfl) (cd.def_ 7 (d := dd__write_store) rfl),
    d__write_branch := df_mk X G (cd.fact 8 (f := .glo "_write_branch") rfl) (cd.def_ 8 (d := dd__write_branch) rfl),
    d__write_upper := df_mk X G (cd.fact 9 (f := .glo "_write_upper") rfl) (cd.def_ 9 (d := dd__write_upper) rfl),
    d__write_jump := df_mk X G (cd.fact 10 (f := .glo "_write_jump") rfl) (cd.def_ 10 (d := dd__write_jump) rfl),
    d__write_whole := df_mk X G (cd.fact 11 (f := .glo "_write_whole") rfl) (cd.def_ 11 (d := dd__write_whole) rfl),
    d_decode := df_mk X G (cd.fact 12 (f := .glo "decode") rfl) (cd.def_ 12 (d := dd_decode) rfl),
    d__with_sign := df_mk X G (cd.fact 13 (f := .glo "_with_sign") rfl) (cd.def_ 13 (d := dd__with_sign) rfl),
    d__read_three := df_mk X G (cd.fact 14 (f := .glo "_read_three") rfl) (cd.def_ 14 (d := dd__read_three) rfl),
    d__read_number := df_mk X G (cd.fact 15 (f := .glo "_read_number") rfl) (cd.def_ 15 (d := dd__read_number) rfl),
    d__read_store := df_mk X G (cd.fact 16 (f := .glo "_read_store") rfl) (cd.def_ 16 (d := dd__read_store) rfl),
    d__read_branch := df_mk X G (cd.fact 17 (f := .glo "_read_branch") rfl) (cd.def_ 17 (d := dd__read_branch) rfl),
    d__read_upper := df_mk X G (cd.fact 18 (f := .glo "_read_upper") rfl) (cd.def_ 18 (d := dd__read_upper) rfl),
    d__read_jump := df_mk X G (cd.fact 19 (f := .glo "_read_jump") rfl) (cd.def_ 19 (d := dd__read_jump) rfl),
    d__read_whole := df_mk X G (cd.fact 20 (f := .glo "_read_whole") rfl) (cd.def_ 20 (d := dd__read_whole) rfl),
    d_do_instruction := df_mk X G (cd.fact 21 (f := .glo "do_instruction") rfl) (cd.def_ 21 (d := dd_do_instruction) rfl),
    d__load := df_mk X G (cd.fact 22 (f := .glo "_load") rfl) (cd.def_ 22 (d := dd__load) rfl),
    d__store := df_mk X G (cd.fact 23 (f := .glo "_store") rfl) (cd.def_ 23 (d := dd__store) rfl),
    d__find := df_mk X G (cd.fact 24 (f := .glo "_find") rfl) (cd.def_ 24 (d := dd__find) rfl),
    d_data_start := df_mk X G (cd.fact 25 (f := .glo "data_start") rfl) (cd.def_ 25 (d := dd_data_start) rfl),
    d_stack_start := df_mk X G (cd.fact 26 (f := .glo "stack_start") rfl) (cd.def_ 26 (d := dd_stack_start) rfl),
    d__behind := df_mk X G (cd.fact 27 (f := .glo "_behind") rfl) (cd.def_ 27 (d := dd__behind) rfl),
    d__law_cell_at := df_mk X G (cd.fact 28 (f := .glo "_law_cell_at") rfl) (cd.def_ 28 (d := dd__law_cell_at) rfl),
    d__law_draw := df_mk X G (cd.fact 29 (f := .glo "_law_draw") rfl) (cd.def_ 29 (d := dd__law_draw) rfl),
    d__law_number := df_mk X G (cd.fact 30 (f := .glo "_law_number") rfl) (cd.def_ 30 (d := dd__law_number) rfl),
    d__law_next := df_mk X G (cd.fact 31 (f := .glo "_law_next") rfl) (cd.def_ 31 (d := dd__law_next) rfl),
    d__law_pick := df_mk X G (cd.fact 32 (f := .glo "_law_pick") rfl) (cd.def_ 32 (d := dd__law_pick) rfl),
    d__law_image := df_mk X G (cd.fact 33 (f := .glo "_law_image") rfl) (cd.def_ 33 (d := dd__law_image) rfl),
    d_law := df_mk X G (cd.fact 34 (f := .glo "law") rfl) (cd.def_ 34 (d := dd_law) rfl),
    c_GREATEST := He.int_ok X G (cd.fact 60 (f := .int "GREATEST" (4294967295)) rfl),
    c_HALF := He.int_ok X G (cd.fact 61 (f := .int "HALF" (2147483648)) rfl),
    c_MOST_REGISTER := He.int_ok X G (cd.fact 62 (f := .int "MOST_REGISTER" (31)) rfl),
    c_HALF_NUMBER := He.int_ok X G (cd.fact 63 (f := .int "HALF_NUMBER" (2048)) rfl),
    c_HALF_BRANCH := He.int_ok X G (cd.fact 64 (f := .int "HALF_BRANCH" (4096)) rfl),
    c_HALF_JUMP := He.int_ok X G (cd.fact 65 (f := .int "HALF_JUMP" (1048576)) rfl),
    c_ARGS := He.int_ok X G (cd.fact 66 (f := .int "ARGS" (10)) rfl),
    c_DEED := He.int_ok X G (cd.fact 67 (f := .int "DEED" (17)) rfl),
    c_BYTES_instructiondeeds := He.int_ok X G (cd.fact 68 (f := .int "BYTES_instructiondeeds" (4)) rfl),
    c_BYTES_linking := He.int_ok X G (cd.fact 69 (f := .int "BYTES_linking" (4)) rfl),
    c_STEP := He.int_ok X G (cd.fact 70 (f := .int "STEP" (16)) rfl),
    c_BYTES_memory := He.int_ok X G (cd.fact 71 (f := .int "BYTES_memory" (4)) rfl),
    c_BYTES_processor := He.int_ok X G (cd.fact 72 (f := .int "BYTES_processor" (4)) rfl),
    c_REGISTERS := He.int_ok X G (cd.fact 73 (f := .int "REGISTERS" (32)) rfl),
    c_WORD_BYTES_machine := He.int_ok X G (cd.fact 74 (f := .int "WORD_BYTES_machine" (4)) rfl),
    c_WORD_BYTES_readymachine := He.int_ok X G (cd.fact 75 (f := .int "WORD_BYTES_readymachine" (4)) rfl),
    c_FORMS := He.glo_ok X G (cd.fact 35 (f := .glo "FORMS") rfl),
    c_BY_LAST_BITS := He.glo_ok X G (cd.fact 36 (f := .glo "BY_LAST_BITS") rfl),
    c_WRITERS := He.glo_ok X G (cd.fact 37 (f := .glo "WRITERS") rfl),
    c_READERS := He.glo_ok X G (cd.fact 38 (f := .glo "READERS") rfl),
    c_SIZES := He.glo_ok X G (cd.fact 39 (f := .glo "SIZES") rfl),
    c_GREATEST_OF := He.glo_ok X G (cd.fact 40 (f := .glo "GREATEST_OF") rfl),
    c_DEEDS := He.glo_ok X G (cd.fact 41 (f := .glo "DEEDS") rfl),
    k_FORMS := c.t.tab 0 (t := (fun K => He.ga K "FORMS", ((["add", "sub", "sll", "slt", "sltu", "xor", "srl", "sra", "or", "and", "mul", "mulh", "mulhsu", "mulhu", "div", "divu", "rem", "remu", "addi", "slti"] : List Str) ++ (["sltiu", "xori", "ori", "andi", "slli", "srli", "srai", "lb", "lh", "lw", "lbu", "lhu", "jalr", "sb", "sh", "sw", "beq", "bne", "blt", "bge"] : List Str) ++ (["bltu", "bgeu", "lui", "auipc", "jal", "ecall", "ebreak", "fence"] : List Str)))) rfl,
    k_WRITERS := c.t.tab 1 (t := (fun K => He.ga K "WRITERS", ["three", "number", "shift", "store", "branch", "upper", "jump", "whole"])) rfl,
    k_READERS := c.t.tab 2 (t := (fun K => He.ga K "READERS", ["three", "number", "shift", "store", "branch", "upper", "jump", "whole"])) rfl,
    k_SIZES := c.t.tab 3 (t := (fun K => He.ga K "SIZES", ["lb", "lh", "lw", "lbu", "lhu", "sb", "sh", "sw"])) rfl,
    k_DEEDS := c.t.tab 4 (t := (fun K => He.ga K "DEEDS", ((["add", "sub", "sll", "slt", "sltu", "xor", "srl", "sra", "or", "and", "mul", "mulh", "mulhsu", "mulhu", "div", "divu", "rem", "remu", "addi", "slti"] : List Str) ++ (["sltiu", "xori", "ori", "andi", "slli", "srli", "srai", "lb", "lh", "lw", "lbu", "lhu", "sb", "sh", "sw", "beq", "bne", "blt", "bge", "bltu"] : List Str) ++ (["bgeu", "lui", "auipc", "jal", "jalr", "ecall", "ebreak", "fence"] : List Str)))) rfl,
    n_len := He.free_ok X G (cd.fact 47 (f := .free "len") rfl),
    n_tuple := He.free_ok X G (cd.fact 48 (f := .free "tuple") rfl),
    n_isinstance := He.free_ok X G (cd.fact 49 (f := .free "isinstance") rfl),
    n_str := He.free_ok X G (cd.fact 50 (f := .free "str") rfl),
    n_int := He.free_ok X G (cd.fact 51 (f := .free "int") rfl),
    n_bool := He.free_ok X G (cd.fact 52 (f := .free "bool") rfl),
    n_all := He.free_ok X G (cd.fact 53 (f := .free "all") rfl),
    n_enumerate := He.free_ok X G (cd.fact 54 (f := .free "enumerate") rfl),
    n_range := He.free_ok X G (cd.fact 55 (f := .free "range") rfl),
    n_list := He.free_ok X G (cd.fact 56 (f := .free "list") rfl),
    n_sorted := He.free_ok X G (cd.fact 57 (f := .free "sorted") rfl),
    n_sum := He.free_ok X G (cd.fact 58 (f := .free "sum") rfl),
    n_dict := He.free_ok X G (cd.fact 59 (f := .free "dict") rfl),
    ga__write_three := He.glo_ok X G (cd.fact 5 (f := .glo "_write_three") rfl),
    ga__write_number := He.glo_ok X G (cd.fact 6 (f := .glo "_write_number") rfl),
    ga__write_store := He.glo_ok X G (cd.fact 7 (f := .glo "_write_store") rfl),
    ga__write_branch := He.glo_ok X G (cd.fact 8 (f := .glo "_write_branch") rfl),
    ga__write_upper := He.glo_ok X G (cd.fact 9 (f := .glo "_write_upper") rfl),
    ga__write_jump := He.glo_ok X G (cd.fact 10 (f := .glo "_write_jump") rfl),
    ga__write_whole := He.glo_ok X G (cd.fact 11 (f := .glo "_write_whole") rfl),
    ga__read_three := He.glo_ok X G (cd.fact 14 (f := .glo "_read_three") rfl),
    ga__read_number := He.glo_ok X G (cd.fact 15 (f := .glo "_read_number") rfl),
    ga__read_store := He.glo_ok X G (cd.fact 16 (f := .glo "_read_store") rfl),
    ga__read_branch := He.glo_ok X G (cd.fact 17 (f := .glo "_read_branch") rfl),
    ga__read_upper := He.glo_ok X G (cd.fact 18 (f := .glo "_read_upper") rfl),
    ga__read_jump := He.glo_ok X G (cd.fact 19 (f := .glo "_read_jump") rfl),
    ga__read_whole := He.glo_ok X G (cd.fact 20 (f := .glo "_read_whole") rfl),
    ga__load := He.glo_ok X G (cd.fact 22 (f := .glo "_load") rfl),
    ga__store := He.glo_ok X G (cd.fact 23 (f := .glo "_store") rfl),
    bf := bf_mk X G (cd.fact 42 (f := .glo "BadForm") rfl) (cd.def_ 35 (d := dd_BadForm___init__) rfl) v5,
    d_Memory___init__ := dm_mk (cd.fact 80 (f := .meth "Memory" "__init__") rfl) (cd.def_ 36 (d := dd_Memory___init__) rfl),
    d_Memory_find := dm_mk (cd.fact 81 (f := .meth "Memory" "find") rfl) (cd.def_ 37 (d := dd_Memory_find) rfl),
    d_Processor___init__ := dm_mk (cd.fact 82 (f := .meth "Processor" "__init__") rfl) (cd.def_ 38 (d := dd_Processor___init__) rfl),
    d_Processor_word_number := dm_mk (cd.fact 83 (f := .meth "Processor" "word_number") rfl) (cd.def_ 39 (d := dd_Processor_word_number) rfl),
    d_Processor_put := dm_mk (cd.fact 84 (f := .meth "Processor" "put") rfl) (cd.def_ 40 (d := dd_Processor_put) rfl),
    d_Processor_go_astray := dm_mk (cd.fact 85 (f := .meth "Processor" "go_astray") rfl) (cd.def_ 41 (d := dd_Processor_go_astray) rfl),
    d_Machine_step := dm_mk (cd.fact 86 (f := .meth "Machine" "step") rfl) (cd.def_ 42 (d := dd_Machine_step) rfl),
    d_Machine_field_at := dm_mk (cd.fact 87 (f := .meth "Machine" "field_at") rfl) (cd.def_ 43 (d := dd_Machine_field_at) rfl),
    d_ReadyMachine___init__ := dm_mk (cd.fact 88 (f := .meth "ReadyMachine" "__init__") rfl) (cd.def_ 44 (d := dd_ReadyMachine___init__) rfl),
    d_ReadyMachine_step := dm_mk (cd.fact 89 (f := .meth "ReadyMachine" "step") rfl) (cd.def_ 45 (d := dd_ReadyMachine_step) rfl),
    d_ReadyMachine_field_at := dm_mk (cd.fact 90 (f := .meth "ReadyMachine" "field_at") rfl) (cd.def_ 46 (d := dd_ReadyMachine_field_at) rfl),
    cl_Memory := ⟨He.glo_ok X G (cd.fact 43 (f := .glo "Memory") rfl), He.cls_ok (cd.fact 76 (f := .cls "Memory") rfl)⟩,
    cl_Processor := ⟨He.glo_ok X G (cd.fact 44 (f := .glo "Processor") rfl), He.cls_ok (cd.fact 77 (f := .cls "Processor") rfl)⟩,
    cl_Machine := ⟨He.glo_ok X G (cd.fact 45 (f := .glo "Machine") rfl), He.cls_ok (cd.fact 78 (f := .cls "Machine") rfl)⟩,
    cl_ReadyMachine := ⟨He.glo_ok X G (cd.fact 46 (f := .glo "ReadyMachine") rfl), He.cls_ok (cd.fact 79 (f := .cls "ReadyMachine") rfl)⟩,
    mk_Memory := He.ba v7,
    na_Memory := fun f hf => He.eqO_ok (List.all_eq_true.mp v10 f hf),
    mk_Machine := He.ba v8,
    na_Machine := fun f hf => He.eqO_ok (List.all_eq_true.mp v11 f hf),
    mk_ReadyMachine := He.ba v9,
    na_ReadyMachine := fun f hf => He.eqO_ok (List.all_eq_true.mp v12 f hf),
    hi_Machine_put := (He.eqO_ok (List.all_eq_true.mp (List.all_eq_true.mp v13 "Machine" (by simp)) "put" (by simp))).trans (He.eqO_ok (List.all_eq_true.mp (List.all_eq_true.mp v13 "Processor" (by simp)) "put" (by simp))).symm,
    hi_ReadyMachine_put := (He.eqO_ok (List.all_eq_true.mp (List.all_eq_true.mp v13 "ReadyMachine" (by simp)) "put" (by simp))).trans (He.eqO_ok (List.all_eq_true.mp (List.all_eq_true.mp v13 "Processor" (by simp)) "put" (by simp))).symm,
    hi_Machine_word_number := (He.eqO_ok (List.all_eq_true.mp (List.all_eq_true.mp v13 "Machine" (by simp)) "word_number" (by simp))).trans (He.eqO_ok (List.all_eq_true.mp (List.all_eq_true.mp v13 "Processor" (by simp)) "word_number" (by simp))).symm,
    hi_ReadyMachine_word_number := (He.eqO_ok (List.all_eq_true.mp (List.all_eq_true.mp v13 "ReadyMachine" (by simp)) "word_number" (by simp))).trans (He.eqO_ok (List.all_eq_true.mp (List.all_eq_true.mp v13 "Processor" (by simp)) "word_number" (by simp))).symm,
    hi_Machine_go_astray := (He.eqO_ok (List.all_eq_true.mp (List.all_eq_true.mp v13 "Machine" (by simp)) "go_astray" (by simp))).trans (He.eqO_ok (List.all_eq_true.mp (List.all_eq_true.mp v13 "Processor" (by simp)) "go_astray" (by simp))).symm,
    hi_ReadyMachine_go_astray := (He.eqO_ok (List.all_eq_true.mp (List.all_eq_true.mp v13 "ReadyMachine" (by simp)) "go_astray" (by simp))).trans (He.eqO_ok (List.all_eq_true.mp (List.all_eq_true.mp v13 "Processor" (by simp)) "go_astray" (by simp))).symm,
    hi_Machine_init := (He.eqO_ok (List.all_eq_true.mp v14 "Machine" (by simp))).trans (He.eqO_ok (List.all_eq_true.mp v14 "Processor" (by simp))).symm,
    s_tab := kvS,
    k_GR := grB_ok v18,
    cf_init := cfB_ok v15,
    ne_cls := of_decide_eq_true v16,
    f_ent := fun o ho => Kg.entA_ok (List.all_eq_true.mp v0 o (List.mem_range.mpr ho)),
    f_no := keysB_ok v1,
    w_tab := kvW,
    r_tab := kvR,
    k_BY := byB_ok v4,
    d_tab := kvD }
theorem all_ok (X : K.In h) (G : h.Ns mainGlobals mg) (c : He.SaysX hfa hfn hts [] hex w h K) (base : Heap) : Gd P w K mg base CX0 9 "law" ["script"] (sp_law K) := by
  have T := txt_mk X G c
  have G_is_number := g_is_number (P := P) (base := base) T 
  have G__are_registers := g__are_registers (P := P) (base := base) T G_is_number
  have G__is_distance := g__is_distance (P := P) (base := base) T G_is_number
  have G__write_three := g__write_three (P := P) (base := base) T G__are_registers
  have G__write_number := g__write_number (P := P) (base := base) T G__are_registers G_is_number
  have G__write_store := g__write_store (P := P) (base := base) T G__are_registers G_is_number
  have G__write_branch := g__write_branch (P := P) (base := base) T G__are_registers G__is_distance
  have G__write_upper := g__write_upper (P := P) (base := base) T G__are_registers G_is_number
  have G__write_jump := g__write_jump (P := P) (base := base) T G__are_registers G__is_distance G_is_number
  have G__write_whole := g__write_whole (P := P) (base := base) T G_is_number
  have G_encode := g_encode (P := P) (base := base) T G__write_three G__write_number G__write_store G__write_branch G__write_upper G__write_jump G__write_whole
  have G__with_sign := g__with_sign (P := P) (base := base) T 
  have G__read_three := g__read_three (P := P) (base := base) T 
  have G__read_number := g__read_number (P := P) (base := base) T G__with_sign
  have G__read_store := g__read_store (P := P) (base := base) T G__with_sign
  have G__read_branch := g__read_branch (P := P) (base := base) T G__with_sign
  have G__read_upper := g__read_upper (P := P) (base := base) T 
  have G__read_jump := g__read_jump (P := P) (base := base) T G__with_sign
  have G__read_whole := g__read_whole (P := P) (base := base) T 
  have G_decode := g_decode (P := P) (base := base) T G__read_three G__read_number G__read_store G__read_branch G__read_upper G__read_jump G__read_whole
  have G__law_cell_at := g__law_cell_at (P := P) (base := base) T 
  have G__law_draw := g__law_draw (P := P) (base := base) T 
  have G__law_number := g__law_number (P := P) (base := base) T G__law_draw
  have G__law_next := g__law_next (P := P) (base := base) T G__law_cell_at G__law_number
  have G__law_pick := g__law_pick (P := P) (base := base) T G__law_next
  have G_word_of := g_word_of (P := P) (base := base) T 
  have G__behind := g__behind (P := P) (base := base) T 
  have G_data_start := g_data_start (P := P) (base := base) T G__behind
  have G_stack_start := g_stack_start (P := P) (base := base) T G__behind G_data_start
  have G_Processor_word_number := g_Processor_word_number (P := P) (base := base) T 
  have G_Processor_put := g_Processor_put (P := P) (base := base) T 
  have G_Processor_go_astray := g_Processor_go_astray (P := P) (base := base) T 
  have G_Memory_find := g_Memory_find (P := P) (base := base) T 
  have G__find := g__find (P := P) (base := base) T G_word_of G_Memory_find G_Processor_go_astray
  have G__load := g__load (P := P) (base := base) T G__find G_word_of G_Processor_put
  have G__store := g__store (P := P) (base := base) T G__find
  have G_do_instruction := g_do_instruction (P := P) (base := base) T G__load G__store G_word_of
  have G_Machine_step := g_Machine_step (P := P) (base := base) T G_Processor_word_number G_decode G_Processor_go_astray G_do_instruction
  have G_ReadyMachine_step := g_ReadyMachine_step (P := P) (base := base) T G_Processor_word_number G_Processor_go_astray G_do_instruction
  have G_Machine_field_at := g_Machine_field_at (P := P) (base := base) T G_Memory_find
  have G_ReadyMachine_field_at := g_ReadyMachine_field_at (P := P) (base := base) T G_Memory_find
  have G_Memory___init__ := g_Memory___init__ (P := P) (base := base) T G_data_start G_stack_start
  have G_Processor___init__ := g_Processor___init__ (P := P) (base := base) T G_Memory___init__
  have G_ReadyMachine___init__ := g_ReadyMachine___init__ (P := P) (base := base) T G_Processor___init__ G_decode
  have G__law_image := g__law_image (P := P) (base := base) T G_encode
  have G_law := g_law (P := P) (base := base) T G__law_next G__law_pick G__law_image G_data_start G_stack_start G_Processor___init__ G_ReadyMachine___init__ G_Machine_step G_ReadyMachine_step G_Machine_field_at G_ReadyMachine_field_at
  exact G_law
end
end K82E


namespace K82E
open PySem PySem.Spec PyProof.Rows L2 My Ru I6 K82
theorem name_law : (HandSHeadRun.topDef (PySem.W.OpenLaw.row PySem.Challenge.rw_trueimage_k82_memory_of_the_machine).prog 113).name = ("law" : PySem.Str) := by kernel_rfl
theorem end_core {P : Program} {w : World} {K : PySem.W.Frag} {h : Heap} {mg : Str → Option Value} {fa : Addr} (KX : K.In h) (G : h.Ns mainGlobals mg) (c : He.SaysX hfa hfn hts [] hex w h K) (hmg : mg ("law" : PySem.Str) = some (.ref fa)) :
    ∃ (K : PySem.W.Frag) (fd : FuncData) (sp : Sp), K.In h ∧ (∀ (s : Shared) (u : Value), BindsTo s fd ⟨[u], []⟩ [(("script" : PySem.Str), u)]) ∧
        (∀ (H : Hp) (a : Addr) (ns : List Int), ns.length ≤ 63 → Only H → SqL K H a (ns.map V.int) → sp [.ref a] H (fun v _ => v = .bl true) fun _ _ _ => False) ∧
        ∀ base : Heap, K.In base → base.Ns mainGlobals mg → FnOk P w K mg base CX0 9 fa fd ["script"] sp :=
  K82.law_core (txt_mk KX G c) KX hmg (fun base => all_ok KX G c base)
end K82E
open PySem PySem.W PySem.Calls PyProof.Rows
set_option maxRecDepth 100000 in
set_option maxHeartbeats 8000000 in
theorem PySem.Challenge.cw_trueimage_k82_memory_of_the_machine_holds : PySem.Challenge.rw_trueimage_k82_memory_of_the_machine.Holds := by
  w_on; o_law
  refine HandSHeadRun.head_any (r := OpenLaw.row PySem.Challenge.rw_trueimage_k82_memory_of_the_machine) (q := view (OpenLaw.row PySem.Challenge.rw_trueimage_k82_memory_of_the_machine).prog [113]) (H := K82E.hk) (ob := K82E.hob) (M := 9000) (loose := K82E.hloose) (d := HandSHeadRun.topDef (OpenLaw.row PySem.Challenge.rw_trueimage_k82_memory_of_the_machine).prog 113) (kwd := []) K82E.hob_eq
    (by kernel_rfl) (fun s => by kernel_rfl) K82E.hrun (by kernel_rfl) (by kernel_rfl) (by kernel_rfl) (by rfl) (by first | assumption | decide +kernel) (by decide +kernel) ⟨rfl, rfl, rfl, rfl, rfl, by decide +kernel⟩ ?hw ?hc
  case hw => w_witness2
  case hc =>
    refine L2.walk_ofE (l := PySem.Challenge.rw_trueimage_k82_memory_of_the_machine) (n := 63) (k := 9) (x := "script") (CX := L2.CX0) rfl (by decide) (by kernel_rfl) ⟨rfl, by decide, by decide⟩ ?F (fun _ _ _ _ z => z)
    intro w mg fa h Y G hmg0
    obtain ⟨K, KX, c⟩ := Y
    exact K82E.end_core KX G c (K82E.name_law ▸ hmg0)

