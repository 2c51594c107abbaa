import PyProof.Rows.All
import Wide.All
import OpenK.AllK
import Wide.FinOn
import HandS.ForMost
import HandS.HeadHook4
import HandS.Wide
import HandS.CallLocal
import HandS.Style
import HandS.Flow
import HandS.Head0
import HandS.Head1
import HandS.Head2
import HandS.HeadEnd
import HandS.EndBits
import HandS.ForExc
import HandS.ExcInit
import HandS.TryElse
import KE.KExcInit
import KE.KExcSuper
import HandS.IsInst
import HandS.StrMore
import KE.GoesNew
import KE.GoesMore
import HandS.Walk
import KE.KBits
import KE.BitLaws
import PyProof.Rows.BitMore
import HandS.Zip
import HandS.DictComp
import PySem.Challenge.RW_trueimage_k70_long_branches
set_option Elab.async false
set_option linter.all false
set_option maxRecDepth 100000
set_option maxHeartbeats 2000000
namespace My
open PySem PySem.Spec PyProof.Rows L2
/-! ### promises by the number of arguments -/
def sp1 (p : V → Hp → VK → XK → Prop) : Sp := fun vs H Q E => ∃ a, vs = [a] ∧ p a H Q E
def sp2 (p : V → V → Hp → VK → XK → Prop) : Sp := fun vs H Q E => ∃ a b, vs = [a, b] ∧ p a b H Q E
def sp3 (p : V → V → V → Hp → VK → XK → Prop) : Sp := fun vs H Q E => ∃ a b c, vs = [a, b, c] ∧ p a b c H Q E
def sp4 (p : V → V → V → V → Hp → VK → XK → Prop) : Sp := fun vs H Q E => ∃ a b c d, vs = [a, b, c, d] ∧ p a b c d H Q E
theorem len1 {p} (vs : List V) (H : Hp) (Q : VK) (E : XK) (h : sp1 p vs H Q E) : vs.length = 1 := by obtain ⟨a, rfl, _⟩ := h; rfl
theorem len2 {p} (vs : List V) (H : Hp) (Q : VK) (E : XK) (h : sp2 p vs H Q E) : vs.length = 2 := by obtain ⟨a, b, rfl, _⟩ := h; rfl
theorem len3 {p} (vs : List V) (H : Hp) (Q : VK) (E : XK) (h : sp3 p vs H Q E) : vs.length = 3 := by obtain ⟨a, b, c, rfl, _⟩ := h; rfl
theorem len4 {p} (vs : List V) (H : Hp) (Q : VK) (E : XK) (h : sp4 p vs H Q E) : vs.length = 4 := by obtain ⟨a, b, c, d, rfl, _⟩ := h; rfl
/-! ### a def of the text behind its name, a def that keeps its promise -/
structure Df (K : PySem.W.Frag) (mg : Str → Option Value) (x : Str) (st : Stmt) : Prop where
  ex : ∃ (f : Addr) (fd : FuncData), mg x = some (.ref f) ∧ FunD K x x (defArgs st) (defBody st) (defScope st) [] [] f fd
structure Gd (P : Program) (w : World) (K : PySem.W.Frag) (mg : Str → Option Value) (base : Heap) (CX : CXT) (k : Nat) (x : Str) (ps : List Str) (sp : Sp) : Prop where
  ex : ∃ (f : Addr) (fd : FuncData), mg x = some (.ref f) ∧ FnOk P w K mg base CX k f fd ps sp ∧ Binds K fd ps [] ∧ PySem.W.keepIn K (.ref f) = true ∧ ∃ oc od osl, K.lookup f = some ⟨oc, od, .func fd, osl⟩
section
variable {P : Program} {w : World} {K : PySem.W.Frag} {mg : Str → Option Value} {base : Heap}
theorem Gd.mono {CX : CXT} {j k : Nat} {x : Str} {ps : List Str} {sp : Sp} (h : Gd P w K mg base CX j x ps sp) (hk : j ≤ k) : Gd P w K mg base CX k x ps sp := by
  obtain ⟨f, fd, a, b, c, d, e⟩ := h.ex
  exact ⟨f, fd, a, b.mono hk, c, d, e⟩
/-- a def out of which no exception comes -/
theorem Df.ok {x : Str} {st : Stmt} {N ps : List Str} {k : Nat} {sp : Sp} (D : Df K mg x st) (S : FnScope N ps (defScope st)) (len : ∀ vs H Q E, sp vs H Q E → vs.length = ps.length)
    (hb : ∀ (kV doc pm : Value) (an : Option Addr) (cdv ct : Value) (us : List Value), us.length = ps.length → bindArgs (PySem.W.fnOf x x (defArgs st) (defBody st) (defScope st) .none kV doc pm an cdv ct) ⟨us, []⟩ = pure (ps.zip us))
    (hbody : ∀ (f : Addr) (cdv : Value) (A : Around) (outer : List Env) (s : Shared) (H : Hp) (vs : List V) (Q : VK) (E : XK), Room k (A.deeper (envOfC x (defScope st) s.heap.objs.size f cdv)) → sp vs H Q E →
      ∃ t, PSs (cxOf CX0 P w K mg base N x (defScope st) f cdv A outer s H E).nox (defBody st) t ∧ t { nx := fun _ H' => Q .non H', rt := Q } (start N vs) H) : Gd P w K mg base CX0 (k + 1) x ps sp := by
  obtain ⟨f, fd, hm, F⟩ := D.ex
  have lk : ∃ oc od osl, K.lookup f = some ⟨oc, od, .func fd, osl⟩ := by
    obtain ⟨oc, od, dV, kV, doc, pm, an, cdv, ct, osl, e, l, _⟩ := F.ex
    exact ⟨oc, od, osl, l⟩
  refine ⟨f, fd, hm, F.ok S len fun cdv A outer s H vs Q E hr h => ?_, F.bindsN hb, F.kp, lk⟩
  obtain ⟨t, h1, h2⟩ := hbody f cdv A outer s H vs Q E hr h
  exact ⟨t, h1.nox, h2⟩
end
section
variable {X : Cx} {CX : CXT} {k : Nat} {x : Str} {ps : List Str} {sp : Sp} {E : XK} {e : Expr} {es : List Expr} {t : TA} {p pos : Pos}
def tCallG (sp : Sp) (E : XK) (t : TA) : TE := fun σ H Q => t σ H fun vs H1 => sp vs H1 Q E
theorem pe_g (h : Gd X.prog X.w X.K X.mg X.base CX k x ps sp) (hr : Room k X.A) (hx : Passes CX X E) (ha : PA X (e :: es) t) (hg : Gl X x := by rfl) (hdb : (x == ("__debug__" : Str)) = false := by decide)
    (he : starEach (e :: es) X.env = (false, eval e X.env) :: starEach es X.env := by rfl) (hpl : (backTo pos (starEach es X.env)).any (·.1) = false := by rfl) : PE X (.Call (.Name x p) (e :: es) [] pos) (tCallG sp E t) := by
  obtain ⟨f, fd, hm, F, hb, hk, _⟩ := h.ex
  have z := pe_call (p := p) F hr hg hm hk hb .nil hx ha hdb he hpl
  refine ⟨fun pins s σ H Q I hw => z.run pins s σ H Q I ?_⟩
  have e0 : (fun (vs : List V) (H1 : Hp) => sp (vs ++ []) H1 Q E) = fun vs H1 => sp vs H1 Q E := by
    funext vs H1
    rw [List.append_nil]
  show t σ H (fun vs H1 => sp (vs ++ []) H1 Q E)
  rw [e0]
  exact hw
/-- the module's ints, texts -/
theorem pe_gint {i : Int} (h : ∃ t, X.mg x = some (.int i t)) (hg : Gl X x := by rfl) (hd : (x == ("__debug__" : Str)) = false := by decide) : PE X (.Name x pos) (tC (.int i)) := by
  obtain ⟨t, h⟩ := h
  exact pe_glob hg h ⟨_, rfl⟩ hd
theorem pe_gstr {z : Str} (h : ∃ t, X.mg x = some (.str z t)) (hg : Gl X x := by rfl) (hd : (x == ("__debug__" : Str)) = false := by decide) : PE X (.Name x pos) (tC (.str z)) := by
  obtain ⟨t, h⟩ := h
  exact pe_glob hg h ⟨_, rfl⟩ hd
theorem pe_gref {a : Addr} (h : X.mg x = some (.ref a)) (hg : Gl X x := by rfl) (hd : (x == ("__debug__" : Str)) = false := by decide) : PE X (.Name x pos) (tC (.ref a)) := pe_glob hg h rfl hd
end
end My

set_option maxHeartbeats 4000000
namespace Bt
open PySem PySem.W PySem.Calls PyProof.Rows
abbrev exB : List Value := [.type "Exception", .type "BaseException", .type "object"]
def plainExc (C t : Addr) (dd : Option Addr) : Obj := { cls := .ref C, dict := dd, data := .fields #[.ref t, .none, .none, .none, .bool false, .none] }
section
variable {prog : Program} {w : World} {A : Around} {R : Result → Shared → Prop} {hp : Heap} {g : Array GenState} {d : Drawn} {t : Nat} {os : OsState} {K : Frag} {C x : Addr} {name : Str} {tk : Tok} {v : Value}
/-- the first field of a raised thing: its dict is laid -/
theorem fld_first (X : K.In hp) {t0 : Addr} (hx : hp.get? x = some (plainExc C t0 none)) (hov : excOver K C exB = true) {cd : ClassData} (hcd : clsIn K C = some cd) (hh : cd.hasDict = true) (hno : findIn K (.ref C) name = some none)
    (hq : ∀ h' tk' dx, (∀ b o, b ≠ x → hp.get? b = some o → h'.get? b = some o) → hp.objs.size ≤ dx → dx ≠ x → h'.get? x = some (plainExc C t0 (some dx)) → h'.Ns1 dx (fun y => if y = name then some v else none) →
      R (.ok (.ret .none)) ⟨h', g, d, tk', os⟩) :
    codeAny (model prog w) A (.call (.builtin "object.__setattr__") ⟨[.ref x, .str name tk, v], []⟩) R ⟨hp, g, d, t, os⟩ := by
  have tak : takerIn K C name = some none := by unfold takerIn; rw [hno]; rfl
  have inst : InstAt hp x (plainExc C t0 none) C none := ⟨hx, rfl, rfl, trivial⟩
  have lc : Looks (model prog w) hp (classData C) cd := looks_clsIn X hcd
  have far : x ≠ hp.objs.size := Nat.ne_of_lt (Heap.lt_size hx)
  refine osa_openX (s := ⟨hp, g, d, t, os⟩) PySem.F.store_Exception X inst hov tak fun b => ?_
  obtain ⟨n1, n2, n3, n4, n5, n6, n7, n8, n9, n10, n11⟩ := cd
  dsimp only at hh
  subst hh
  show wpAny _ _ (Builtin.ObjectAttr.storeInOwnDict _ _ _ _ _ _) _ _ _
  unfold Builtin.ObjectAttr.storeInOwnDict Builtin.ObjectAttr.ownDictForStores
  repeat (first | with_reducible refine lc.at ?_ | with_reducible refine wpAny_loadPart_at hx ?_ | with_reducible refine HandSPX.store_in_new ?_ ?_ | wp_step)
  · exact ⟨_, #[], _, (Heap.get?_update_ne _ _ _ _ far.symm).trans (Heap.get?_push_at rfl rfl), rfl, (fun e he => absurd he (by simp)), fun _ => rfl⟩
  · intro h1 tk1 nsd same
    have hx1 : (hp.push { cls := .type "dict", data := .dict #[] }).get? x = some (plainExc C t0 none) := Heap.get?_push_of_some _ hx
    refine hq h1 tk1 hp.objs.size (fun b o hb ho => ?_) (Nat.le_refl _) far.symm ?_ nsd
    · have y := same.2 b (Nat.ne_of_lt (Heap.lt_size ho))
      rw [y, Heap.get?_update_ne _ _ _ _ hb]
      exact Heap.get?_push_of_some _ ho
    · have y := same.2 x far
      rw [y]
      exact Heap.get?_update_self _ hx1 rfl
/-- a further field -/
theorem fld_more (X : K.In hp) {t0 dx : Addr} {m0 : Str → Option Value} {nl : List Str} (hx : hp.get? x = some (plainExc C t0 (some dx))) (hns : hp.Ns1 dx m0) (hw : Within m0 nl) (hz : nl.length ≤ 1000) (hov : excOver K C exB = true) {cd : ClassData} (hcd : clsIn K C = some cd) (hh : cd.hasDict = true) (hno : findIn K (.ref C) name = some none)
    (hq : ∀ h' tk', (∀ b o, b ≠ dx → hp.get? b = some o → h'.get? b = some o) → h'.Ns1 dx (fun y => if y = name then some v else m0 y) → R (.ok (.ret .none)) ⟨h', g, d, tk', os⟩) :
    codeAny (model prog w) A (.call (.builtin "object.__setattr__") ⟨[.ref x, .str name tk, v], []⟩) R ⟨hp, g, d, t, os⟩ := by
  have tak : takerIn K C name = some none := by unfold takerIn; rw [hno]; rfl
  obtain ⟨oD, esD, epD, hoD, hdD, _⟩ := hns.count hw
  have inst : InstAt hp x (plainExc C t0 (some dx)) C (some oD) := ⟨hx, rfl, rfl, hoD⟩
  have lc : Looks (model prog w) hp (classData C) cd := looks_clsIn X hcd
  refine osa_openX (s := ⟨hp, g, d, t, os⟩) PySem.F.store_Exception X inst hov tak fun b => ?_
  obtain ⟨n1, n2, n3, n4, n5, n6, n7, n8, n9, n10, n11⟩ := cd
  dsimp only at hh
  subst hh
  show wpAny _ _ (Builtin.ObjectAttr.storeInOwnDict _ _ _ _ _ _) _ _ _
  unfold Builtin.ObjectAttr.storeInOwnDict Builtin.ObjectAttr.ownDictForStores
  repeat (first | with_reducible refine lc.at ?_ | with_reducible refine wpAny_loadPart_at hx ?_ | with_reducible refine PySem.OEX.store_in_old hns hw hz ?_ | wp_step)
  intro h1 tk1 nsd same
  exact hq h1 tk1 (fun b o hb ho => by rw [same.2 b hb]; exact ho) nsd
end
/-! ### BadText: what the written part says of it; its __init__ -/
def iA (p1 p2 p3 : Pos) : Arguments := { posonlyargs := [], args := [{ arg := "self", annotation := none, pos := p1 }, { arg := "line", annotation := none, pos := p2 }, { arg := "column", annotation := none, pos := p3 }], vararg := none, kwonlyargs := [], kw_defaults := [], kwarg := none, defaults := [] }
def iB (q1 q2 q3 q4 r1 r2 r3 r4 : Pos) : List Stmt := [.Assign [.Attribute (.Name "self" q1) "line" q2] (.Name "line" q3) q4, .Assign [.Attribute (.Name "self" r1) "column" r2] (.Name "column" r3) r4]
def iS : Scope := { kind := .function, names := [(PySem.Str.ofString "self", .local), (PySem.Str.ofString "line", .local), (PySem.Str.ofString "column", .local)], isGenerator := false, isCoroutine := false, more := [] }
structure BtTxt (K : Frag) (mg : Str → Option Value) (C fI : Addr) : Prop where
  gC : mg "BadText" = some (.ref C)
  exI : excInitIn K C exB "Exception.__new__" = true
  over : excOver K C exB = true
  cd : ∃ cd, clsIn K C = some cd ∧ cd.hasDict = true
  sa : findIn K (.ref C) "__setattr__" = some (some (.builtin "object.__setattr__"))
  ga : findIn K (.ref C) "__getattribute__" = some (some (.builtin "BaseException.__getattribute__"))
  gg : findIn K (.ref C) "__getattr__" = some none
  noL : findIn K (.ref C) "line" = some none
  noC : findIn K (.ref C) "column" = some none
  iC : findIn K (.ref C) "__init__" = some (some (.ref fI))
  tC : typeIn K (.ref fI) = some (.type "function")
  kC : keepIn K (.ref C) = true
  exC : subIn K (.ref C) (.type "BaseException") = some true
  tyC : typeIn K (.ref C) = some (.type "type")
  hdC : hasDictIn K C = true
  te : exmOne K (.ref C) (.ref C) = some true
  fn : ∃ (oc : Value) (od : Option Addr) (kV doc pm : Value) (an : Option Addr) (cdv ct : Value) (osl : Array (Option Value)) (p1 p2 p3 q1 q2 q3 q4 r1 r2 r3 r4 : Pos),
    K.lookup fI = some ⟨oc, od, .func (fnOf "__init__" "BadText.__init__" (iA p1 p2 p3) (iB q1 q2 q3 q4 r1 r2 r3 r4) iS .none kV doc pm an cdv ct), osl⟩ ∧ codeIn K cdv "BadText.__init__" = true
theorem one_size (v u : Value) : [v, u].length ≤ sizeLine := by
  rw [sizeLine_eq]
  exact (by decide : 2 ≤ 16777216)
theorem ldC {M : Model} {s : Shared} {name : Str} {scope : Scope} {L a : Addr} {cd : Value} {m : Str → Option Value} {x : Str} {pos : Pos} {v : Value} {Q : Value → Shared → Prop} {A : Around} {E : Value → Shared → Prop} (hn : s.heap.Ns L m) (hv : m x = some v) (h : Q v s)
    (hk : scope.kind = .function := by rfl) (hl : (envOfC name scope L a cd).kindOf x = some .local := by rfl) (hd : (x == ("__debug__" : Str)) = false := by decide) :
    wpAny M A (eval (.Name x pos) (envOfC name scope L a cd)) Q E s := wpAny_Name (wpAny_loadName_local hk hl hn hv h) hd
def two (l c : Value) : Str → Option Value := fun y => if y = "column" then some c else if y = "line" then some l else none
/-- what __init__ leaves of a fresh exception at x -/
structure InitEnd (h h' : Heap) (x C dx t1 : Addr) (l c : Value) : Prop where
  keep : ∀ b o, b ≠ x → h.get? b = some o → h'.get? b = some o
  obj : h'.get? x = some (plainExc C t1 (some dx))
  dbig : h.objs.size ≤ dx
  dne : dx ≠ x
  ns : h'.Ns1 dx (two l c)
/-- a made BadText -/
structure OwnMade (h h' : Heap) (e C d : Addr) (l c : Value) : Prop where
  keep : ∀ b o, h.get? b = some o → h'.get? b = some o
  new : h.objs.size ≤ e
  obj : ∃ oe vs, h'.get? e = some oe ∧ oe.cls = .ref C ∧ oe.dict = some d ∧ oe.data = .fields vs ∧ vs[1]? = some .none
  dbig : h.objs.size ≤ d
  dne : d ≠ e
  ns : h'.Ns1 d (two l c)
section
variable {prog : Program} {w : World} {A : Around} {E : Value → Shared → Prop} {R : Result → Shared → Prop} {s : Shared} {K : Frag} {mg : Str → Option Value} {C fI : Addr}
theorem bt_init (T : BtTxt K mg C fI) {x t0 : Addr} {l c : Value} (X : K.In s.heap) (hlim : s.heap.NoLimit) (hx : s.heap.get? x = some (plainExc C t0 none)) (hnx : K.lookup x = none) (hroom : A.depth < recursionLimit)
    (hq : ∀ h' tk dx, InitEnd s.heap h' x C dx t0 l c → R (.ok (.ret .none)) { s with heap := h', toks := tk }) :
    codeAny (model prog w) A (.call (.ref fI) ⟨[.ref x, l, c], []⟩) R s := by
  obtain ⟨oc, od, kV, doc, pm, an, cdv, ct, osl, p1, p2, p3, q1, q2, q3, q4, r1, r2, r3, r4, ho, hcd⟩ := T.fn
  obtain ⟨cd, hcl, hhd⟩ := T.cd
  refine Att.call_fn (binds := [("self", .ref x), ("line", l), ("column", c)]) X hlim ho hcd hroom (BindsTo.of_eq (by first | rfl | with_unfolding_all rfl)) (by first | rfl | decide | with_unfolding_all rfl) (fun s₁ IC => ?_) rfl rfl rfl
  obtain ⟨h₁, tk₁, rfl⟩ := IC.toInCall.same
  have k : ∀ b o, s.heap.get? b = some o → h₁.get? b = some o := IC.toInCall.keep
  have hn := IC.toInCall.ns
  have hLx : s.heap.objs.size ≠ x := Nat.ne_of_gt (Heap.lt_size hx)
  have X₁ : K.In h₁ := X.keeps k
  have hx₁ := k _ _ hx
  have z : s.heap.objs.size < h₁.objs.size := hn.lt
  -- self.line = line
  show wpAny _ _ (execs _ _) _ _ _
  refine wpAny_execs_cons (plainObj_wpAny_Assign_Attribute ?_)
  refine ldC (v := l) hn (by first | rfl | with_unfolding_all rfl | kernel_rfl) (ldC (v := .ref x) hn (by first | rfl | with_unfolding_all rfl | kernel_rfl) ?_)
  refine set_plain X₁ (ox := plainExc C t0 none) (od := none) ⟨hx₁, rfl, rfl, trivial⟩ T.sa ?_
  refine fld_first X₁ hx₁ T.over hcl hhd T.noL (fun h₂ tk₂ dx k₂ dn dne hx₂ hn₂ => ?_)
  have X₂ : K.In h₂ := fun b o e => k₂ b o (fun q => by rw [q, hnx] at e; cases e) (X₁ b o e)
  have hnL := hn.at (h' := h₂) (fun o e => k₂ _ _ hLx e)
  obtain ⟨oD, hoD⟩ : ∃ o, h₂.get? dx = some o := by
    obtain ⟨o, _, _, e, _⟩ := hn₂
    exact ⟨o, e⟩
  -- self.column = column
  show wpAny _ _ (execs _ _) _ _ _
  refine wpAny_execs_cons (plainObj_wpAny_Assign_Attribute ?_)
  refine ldC (v := c) hnL (by first | rfl | with_unfolding_all rfl | kernel_rfl) (ldC (v := .ref x) hnL (by first | rfl | with_unfolding_all rfl | kernel_rfl) ?_)
  refine set_plain X₂ (ox := plainExc C t0 (some dx)) (od := some oD) ⟨hx₂, rfl, rfl, hoD⟩ T.sa ?_
  have wi : Within (fun y => if y = ("line" : Str) then some l else none) [("line" : Str)] := Within.cons _ _ Within.nil
  refine fld_more X₂ hx₂ hn₂ wi (by decide) T.over hcl hhd T.noC (fun h₃ tk₃ k₃ hn₃ => ?_)
  show wpAny _ _ (execs _ _) _ _ _
  refine wpAny_execs_nil (hq h₃ tk₃ dx ⟨fun b o hb e => k₃ b o (fun q => ?_) (k₂ b o hb (k b o e)), k₃ x _ dne.symm hx₂, Nat.le_of_lt (Nat.lt_of_lt_of_le z dn), dne, hn₃⟩)
  subst q
  exact absurd (Nat.lt_of_lt_of_le (Heap.lt_size (k _ _ e)) dn) (Nat.lt_irrefl _)
theorem bt_made (T : BtTxt K mg C fI) {l c : Value} (X : K.In s.heap) (hlim : s.heap.NoLimit) (hroom : A.depth + 1 < recursionLimit)
    (hq : ∀ h' tk e d, OwnMade s.heap h' e C d l c → R (.ok (.ret (.ref e))) { s with heap := h', toks := tk }) :
    codeAny (model prog w) A (.call (.ref C) ⟨[l, c], []⟩) R s := by
  obtain ⟨nm, N, q, bs, bm, hdct, sn, sub, ab, col, dd, k0, k1, k2, k3, k5, hC, hT⟩ := excInit_of X T.exI
  obtain ⟨hp, g, dr, tk, os⟩ := s
  have k : ∀ b o, hp.get? b = some o → ((hp.push (kdv_tup [l, c])).push (HandSPX.excO C hp.objs.size)).get? b = some o := fun b o e => Heap.get?_push_of_some _ (Heap.get?_push_of_some _ e)
  have hget : ((hp.push (kdv_tup [l, c])).push (HandSPX.excO C hp.objs.size)).get? (hp.objs.size + 1) = some (HandSPX.excO C hp.objs.size) := by heap_get
  have hnx : K.lookup (hp.objs.size + 1) = none := by
    cases e : K.lookup (hp.objs.size + 1) with
    | none => rfl
    | some o =>
      have z : hp.get? (hp.objs.size + 1) = some o := X _ _ e
      exact absurd (Nat.lt_of_succ_lt (Heap.lt_size z)) (Nat.lt_irrefl _)
  refine HandSPX.call_own PySem.F.excBase_Exception hT hC (looks_findIn X T.iC) (fun self => bind_fn X self T.tC) (one_size l c) ?_
  refine bt_init (s := ⟨(hp.push (kdv_tup [l, c])).push (HandSPX.excO C hp.objs.size), g, dr, tk, os⟩) T (X.keeps k) (hlim.keeps k) hget hnx ?_ fun h' tk' dx ⟨k', hx, dn, dne, hns⟩ => ?_
  · show A.depth + 1 < recursionLimit
    exact hroom
  · have old : ∀ b o, hp.get? b = some o → h'.get? b = some o := fun b o e => k' b o (Nat.ne_of_lt (Nat.lt_succ_of_lt (Heap.lt_size e))) (k b o e)
    have z : hp.objs.size + 1 + 1 ≤ dx := by
      first
        | (simpa only [Heap.size_push] using dn)
        | exact dn
        | (have q := dn; rw [Heap.size_push, Heap.size_push] at q; exact q)
    exact ⟨rfl, hq h' tk' (hp.objs.size + 1) dx ⟨old, Nat.le_succ _, ⟨_, _, hx, rfl, rfl, rfl, rfl⟩, Nat.le_trans (Nat.le_trans (Nat.le_succ _) (Nat.le_succ _)) z, dne, hns⟩⟩
end
end Bt
namespace L2
open PySem PySem.Spec PyProof.Rows
def btFs (v u : V) : List (Str × V) := [("column", u), ("line", v)]
theorem bt_line (v u : V) : (btFs v u).lookup ("line" : Str) = some v := by
  have q : (("line" : Str) == ("column" : Str)) = false := by decide +kernel
  unfold btFs
  simp only [List.lookup, q, beq_self_eq_true]
theorem bt_col (v u : V) : (btFs v u).lookup ("column" : Str) = some u := by
  unfold btFs
  simp only [List.lookup, beq_self_eq_true]
theorem bt_rel {v u : V} {v' u' : Value} (r1 : RelV v v') (r2 : RelV u u') (f : Str) : RelO ((btFs v u).lookup f) (Bt.two v' u' f) := by
  unfold Bt.two btFs
  by_cases hc : f = "column"
  · subst hc
    rw [if_pos rfl]
    have q : List.lookup ("column" : Str) [(("column" : Str), u), (("line" : Str), v)] = some u := by simp [List.lookup]
    rw [q]
    exact r2
  · rw [if_neg hc]
    have qc : (f == ("column" : Str)) = false := by simpa using hc
    by_cases hl : f = "line"
    · subst hl
      rw [if_pos rfl]
      have q : List.lookup ("line" : Str) [(("column" : Str), u), (("line" : Str), v)] = some v := by
        simp only [List.lookup, qc]
        simp
      rw [q]
      exact r1
    · rw [if_neg hl]
      have ql : (f == ("line" : Str)) = false := by simpa using hl
      have q : List.lookup f [(("column" : Str), u), (("line" : Str), v)] = none := by
        simp only [List.lookup, qc, ql]
      rw [q]
      trivial
section
variable {X : Cx} {C fI : Addr}
/-- BadText(e, e') -/
def tMkBt (C : Addr) (ta : TA) : St → Hp → XK → Prop := fun σ H Q => ta σ H fun vs H1 => ∃ v u, vs = [v, u] ∧ ∀ d, H1 d = none → Q (.ref C) (some d) (upd H1 d (.xd (btFs v u)))
theorem pmk_bt {a b : Expr} {ta : TA} {p pos : Pos} {k : Nat} (T : Bt.BtTxt X.K X.mg C fI) (hr : Room k X.A) (ha : PA X [a, b] ta) (hg : Gl X "BadText" := by rfl)
    (he : starEach (a :: [b]) X.env = (false, eval a X.env) :: starEach [b] X.env := by rfl) (hpl : (backTo pos (starEach [b] X.env)).any (·.1) = false := by rfl) :
    PMk X (.Call (.Name "BadText" p) [a, b] [] pos) (tMkBt C ta) := by
  intro pins s σ H Q I h
  refine wpAny_Call_Name_kw (ld_glob I hg T.gC ?_)
  refine PySem.W.callWith_K (h₀ := X.base) I.ok.mod.kin T.kC (thn (ha.run pos pins s σ H _ I h) fun us s1 hh => ?_) he hpl
  obtain ⟨vs, H1, I1, r1, v, u, ev, q1⟩ := hh
  subst ev
  refine ⟨I1.kIn, ?_⟩
  obtain ⟨v', u', rfl, rv, ru⟩ := Vals.two r1
  show wpAny _ _ (call (.ref C) [v', u']) _ _ _
  have hlim := I1.nolimit
  obtain ⟨hp, g, dr, tk, os⟩ := s1
  refine wpAny_call (Bt.bt_made T I1.kIn hlim (by have := hr.dp; omega) fun h' tk' e d M => ?_)
  show MkP X pins σ Q (.ref e) ⟨h', g, dr, tk', os⟩
  obtain ⟨oe, fv, hoe, hc, hd, hdat, h1⟩ := M.obj
  have hns := M.ns
  obtain ⟨G', g1, g2⟩ := restrict h' fun b => decide (b ≠ e)
  have gk : ∀ b, b ≠ e → G'.get? b = h'.get? b := fun b hb => g1 b (decide_eq_true hb)
  have ge : G'.get? e = none := g2 e (by simp)
  have old : ∀ b o, hp.get? b = some o → G'.get? b = some o := fun b o q => (gk b (Nat.ne_of_lt (Nat.lt_of_lt_of_le (Heap.lt_size q) M.new))).trans (M.keep b o q)
  have ob : ObjOk X.prog X.w (upd H1 d (.xd (btFs v u))) G' d (.xd (btFs v u)) :=
    ⟨_, hns.at (fun o q => (gk d M.dne).trans q), fun f => bt_rel rv ru f⟩
  have J : Inv X pins σ (upd H1 d (.xd (btFs v u))) ⟨G', g, dr, tk', os⟩ := I1.laid (t' := tk') old M.dbig ob
  refine ⟨e, oe, fv, ⟨G', g, dr, tk', os⟩, _, .ref C, some d, rfl, J, fun b o q => ?_, ge, hoe, ⟨hc, hd⟩, hdat, h1, ?_, rfl, I1.bare, raises_own T.exC T.tyC, q1 d (I1.hok.fresh M.dbig)⟩
  · by_cases hb : b = e
    · have q' : G'.get? b = some o := q
      rw [hb, ge] at q'; cases q'
    · exact (gk b hb).symm.trans q
  · rw [upd_ne (Ne.symm M.dne)]
    exact I1.hok.fresh M.new
/-- raise BadText(e, e') -/
def tRaiseBt (C : Addr) (W : WX) (ta : TA) : TS := fun _ σ H => tMkBt C ta σ H fun cls d H' => W cls d σ H'
theorem ps_raiseBt {a b : Expr} {ta : TA} {W : WX} {p pos pos2 : Pos} {k : Nat} (hc : X.calm = true) (T : Bt.BtTxt X.K X.mg C fI) (hr : Room k X.A) (tk : Takes X W) (ha : PA X [a, b] ta) (hg : Gl X "BadText" := by rfl)
    (he : starEach (a :: [b]) X.env = (false, eval a X.env) :: starEach [b] X.env := by rfl) (hpl : (backTo pos (starEach [b] X.env)).any (·.1) = false := by rfl) :
    PS X (.Raise (some (.Call (.Name "BadText" p) [a, b] [] pos)) none pos2) (tRaiseBt C W ta) := ps_raise hc tk (pmk_bt T hr ha hg he hpl)
/-- error.line, error.column, error the exception that the suite holds (at a; its class cls, its dict d) -/
def tFldBt (C : Addr) (f : Str) (a : Addr) (cls : Value) (d : Option Addr) (te : TE) : TE := fun σ H Q => te σ H fun x H1 => x = .ref a ∧ cls = .ref C ∧ ∃ (dd : Addr) (fs : List (Str × V)) (v : V), d = some dd ∧ H1 dd = some (.xd fs) ∧ fs.lookup f = some v ∧ Q v H1
theorem pe_fldBt {f : Str} {a : Addr} {oe : Obj} {cls : Value} {d : Option Addr} {pn : List (Addr × Obj)} {e : Expr} {te : TE} {pos : Pos} (T : Bt.BtTxt X.K X.mg C fI) (hn : PySem.W.findIn X.K (.ref C) f = some none) (hz : Zc cls d oe) (hf : ∃ vs, oe.data = .fields vs) (he : PE (X.suite a ((a, oe) :: pn)) e te)
    (hb : attributeBase e f X.env (eval e X.env) = eval e X.env := by rfl) :
    PE (X.suite a ((a, oe) :: pn)) (.Attribute e f pos) (tFldBt C f a cls d te) := by
  refine ⟨fun pins s σ H Q I h => ?_⟩
  refine attr_of hb (thn (he.run pins s σ H _ I h) fun u s1 hh => ?_)
  obtain ⟨x, H1, I1, rx, ex, ec, dd, fs, v, ed, ea, l, q⟩ := hh
  subst ex
  obtain rfl : u = Value.ref a := rx
  subst ec
  subst ed
  obtain ⟨ha, _⟩ := I1.pin (a, oe) (List.mem_append_left _ List.mem_cons_self)
  obtain ⟨vs, hd⟩ := hf
  have hx : ObjOk X.prog X.w H1 s1.heap dd (.xd fs) := I1.hok dd _ ea
  obtain ⟨mA, hns, hr⟩ := hx
  obtain ⟨od, ho, hl⟩ := lookIn_ns hns
  obtain ⟨u, hu, ru⟩ := RelO.some_of (v := v) (o := mA f) (by rw [← l]; exact hr f)
  have J : PySem.W.InstAt s1.heap a oe C (some od) := ⟨ha, hz.1, by unfold PySem.W.notCls; rw [hd] <;> rfl, by rw [hz.2]; exact ho⟩
  exact HandSPX.exc_get I1.kIn J T.ga T.gg T.exC (PySem.W.findObj_own T.hdC hn rfl (by rw [hl, hu])) (handed_of ru) ⟨v, H1, I1.tok _, ru, q⟩
end
end L2

namespace L2
open PySem PySem.Spec PyProof.Rows
section
variable {X : Cx} {x n : Str} {c : Value} {i : Nat} {body suite orelse : List Stmt} {b₀ : Stmt} {np pos pos' : Pos} {tb : WX → TS} {ts : Addr → Value → Option Addr → TS} {u : TS}
theorem Inv.thin {pins : List (Addr × Obj)} {σ σ' : St} {H : Hp} {s : Shared} (I : Inv X pins σ H s) (hl : σ'.length = X.N.length) (h : ∀ (j : Nat) (v : V), σ'[j]? = some (some v) → σ[j]? = some (some v)) : Inv X pins σ' H s := by
  obtain ⟨m, hn, hlk⟩ := I.loc
  exact { I with loc := ⟨m, hn, fun j x v e1 e2 e3 => hlk j x v e1 (h j v e2) e3⟩, len := hl }
theorem only_set {n i : Nat} {σ : St} {w : V} (hi : i < σ.length) : ∀ (j : Nat) (v : V), ((List.replicate n (none : Option V)).set i (some w))[j]? = some (some v) → (σ.set i (some w))[j]? = some (some v) := by
  intro j v e
  rw [List.getElem?_set] at e ⊢
  by_cases c : i = j
  · subst c
    rw [if_pos rfl] at e ⊢
    rw [if_pos hi]
    split at e
    · exact e
    · cases e
  · rw [if_neg c] at e
    rw [List.getElem?_replicate] at e
    split at e
    · cases e
    · cases e
/-- what the clause wishes of what the body lets out: it is the clause's own, and the suite returns -/
def wGot (K : PySem.W.Frag) (n : Nat) (c : Value) (i : Nat) (ts : Addr → Value → Option Addr → TS) (D : Ends) : WX := fun cls d _ H =>
  PySem.W.exmOne K cls c = some true ∧ ∀ a, H a = none → ts a cls d { nx := fun _ _ => False, rt := D.rt } ((List.replicate n none).set i (some (.ref a))) H
/-- try: body / except x as n: a suite that returns / else: orelse -/
theorem ps_try_got (ho : PSs X orelse u) (stk : X.stack = X.env :: X.outer) (frm : X.env.frame = some X.env.locals) (nd : X.N.Nodup) (at_ : X.N[i]? = some n) (lo : X.env.kindOf n = some .local) (nm : Names X x c)
    (hb : ∀ (W : WX) (pn : List (Addr × Obj)) (xe : Value → Shared → Prop), Takes (X.tr pn xe) W → PassesOwn (model X.prog X.w) X.A X.env xe → PSs (X.tr pn xe) body (tb W))
    (hsu : ∀ (a : Addr) (oe : Obj) (cls : Value) (d : Option Addr) (pn : List (Addr × Obj)), Zc cls d oe → (∃ vs, oe.data = .fields vs) → PSs (X.suite a ((a, oe) :: pn)) (b₀ :: suite) (ts a cls d)) :
    PS X (.Try body [.ExceptHandler (some (.Name x np)) (some n) (b₀ :: suite) pos'] orelse [] pos) (fun D σ H => tb (wGot X.K X.N.length c i ts D) { D with nx := u D } σ H) := by
  refine ⟨fun ps s0 σ0 H0 D inv rd => wpAny_Try_except ?_⟩
  have xok := inv.ok
  have afr : X.A.frames = some (X.env :: X.outer) := xok.frames.trans (congrArg some stk)
  have run := hb (wGot X.K X.N.length c i ts D) (X.pn ++ ps) (fun e s₁ => wpAny (model X.prog X.w) X.A (noteFrame e X.env) (fun _ s₂ => wpAny (model X.prog X.w) X.A (setFlight e none)
    (fun _ s₃ => wpAny (model X.prog X.w) X.A (handleBy e X.env [.ExceptHandler (some (.Name x np)) (some n) (b₀ :: suite) pos']) (SP X ps D) X.xe s₃) X.xe s₂) X.xe s₁) ?caught PassesOwn.looking
  case caught =>
    rintro ex t ⟨a, B, sI, ps', σ1, H1, cls, d, rfl, Jt, stays, upto, air, fresh, eos, gens, em, rds⟩
    have J1 : Inv X ps σ1 H1 sI := Jt.ofTry xok
    refine Sky.land Zc.steady afr frm (stk ▸ air) fun g1 f1 u1 => ?_
    have K1 : Inv X ps σ1 H1 { t with heap := g1 } := J1.landed stays f1.1 (upto.trans u1) eos gens
    obtain ⟨o1, w1, e1, z1, d1⟩ := f1.there
    have outOf : a ∉ frs (X.env :: X.outer) := by
      intro m
      obtain ⟨_, o', e', no⟩ := f1.2.2.1.mem m
      rw [e1] at e'
      cases e'
      exact no _ d1
    have aL : a ≠ X.env.locals := by
      intro z
      exact outOf (List.mem_filterMap.mpr ⟨X.env, List.mem_cons_self, by rw [frm, z]⟩)
    have aF : a ∉ X.fs := by
      intro m
      obtain ⟨e, he, q⟩ := List.mem_filterMap.mp m
      exact outOf (List.mem_filterMap.mpr ⟨e, List.mem_cons_of_mem _ he, q⟩)
    have C1 := K1.suite e1 d1 fresh aL aF
    refine wpAny_handleBy_cons (codeAny_handlers_test ?_) (fun q => by cases q)
    have ty : PySem.W.Looks (model X.prog X.w) g1 (typeOf (.ref a)) cls := by
      intro A Q E s k q
      exact wpAny_typeOf_ref (k _ _ e1) (by rw [z1.1]; exact q)
    have mt := PySem.W.exm_one (M := model X.prog X.w) K1.kIn ty em
    have nme : wpAny (model X.prog X.w) (X.A.mark (some (.ref a))) (eval (.Name x np) X.env) (fun v s' => v = c ∧ s' = { t with heap := g1 }) (fun _ _ => False) { t with heap := g1 } := by
      obtain ⟨gl, nd', hm | ⟨hm, hv, hn⟩⟩ := nm
      · exact ld_glob (X := X.suite a ((a, o1) :: (X.pn ++ ps))) C1 gl hm ⟨rfl, rfl⟩ nd'
      · exact ld_blt (X := X.suite a ((a, o1) :: (X.pn ++ ps))) C1 gl hm hv ⟨rfl, rfl⟩ hn nd'
    refine wpAny_mono nme ?_ (fun _ _ z => z.elim)
    rintro v s' ⟨rfl, rfl⟩
    refine mt.here ?_
    refine codeAny_handlers_suite_as (HandSPX.lands_againZ f1 fun g2 f2 u2 => ?_)
    have K2 : Inv X ps σ1 H1 { t with heap := g2 } := J1.landed stays f2.1 ((upto.trans u1).trans u2) eos gens
    obtain ⟨o2, w2, e2, z2, d2⟩ := f2.there
    refine store_ok (X := X.suite a ((a, o2) :: (X.pn ++ ps))) (v := .ref a) (K2.suite e2 d2 fresh aL aF) nd at_ (.inl lo) rfl (fun s3 C3 => ?_) (.inr lo)
    have hiN : i < σ1.length := by
      rw [K1.len]
      exact (List.getElem?_eq_some_iff.mp at_).1
    refine wpAny_mono ((hsu a o2 cls d (X.pn ++ ps) z2 ⟨_, d2⟩).run [] s3 _ H1 _ (C3.thin (by rw [List.length_set, List.length_replicate]) (only_set hiN)) (rds a fresh)) (fun fl s4 sp => ?_) (fun _ _ z => z.elim)
    cases fl with
    | ret v4 =>
      obtain ⟨y, σ4, H4, C4, ry, q4⟩ := sp
      exact gone_ok (C4.unsuite xok) nd at_ lo fun s5 K5 => ⟨y, _, H4, K5, ry, q4⟩
    | next =>
      obtain ⟨_, _, _, q⟩ := sp
      exact q.elim
    | brk =>
      obtain ⟨_, _, _, q⟩ := sp
      exact q.elim
    | cont =>
      obtain ⟨_, _, _, q⟩ := sp
      exact q.elim
  refine wpAny_mono (run.run [] s0 σ0 H0 { D with nx := u D } (inv.toTry _) rd) (fun fl s1 sp => ?_) (fun _ _ z => z)
  cases fl with
  | next =>
    obtain ⟨σ1, H1, J1, q1⟩ := sp
    exact ho.run ps s1 σ1 H1 D (J1.ofTry xok) q1
  | ret v =>
    obtain ⟨y, σ1, H1, J1, ry, q1⟩ := sp
    exact ⟨y, σ1, H1, J1.ofTry xok, ry, q1⟩
  | brk =>
    obtain ⟨σ1, H1, J1, q1⟩ := sp
    exact ⟨σ1, H1, J1.ofTry xok, q1⟩
  | cont =>
    obtain ⟨σ1, H1, J1, q1⟩ := sp
    exact ⟨σ1, H1, J1.ofTry xok, q1⟩
end
end L2

/-! The reader as plain functions of the rest of the pieces. A piece: its sort's number, its line, its column. -/
namespace Mir
abbrev Pc := Nat × Nat × Nat
inductive Rs (α : Type) where
  | ok (a : α)
  | bad (l k : Nat)
  | out
def Rs.bind {α β : Type} : Rs α → (α → Rs β) → Rs β
  | .ok a, f => f a
  | .bad l k, _ => .bad l k
  | .out, _ => .out
instance : Monad Rs where
  pure := .ok
  bind := Rs.bind
def Post {α : Type} (m : Rs α) (good : α → Prop) (ill : Nat → Nat → Prop) : Prop := match m with
  | .ok a => good a
  | .bad l k => ill l k
  | .out => False
theorem post_bind {α β : Type} {m : Rs α} {f : α → Rs β} {good : β → Prop} {ill : Nat → Nat → Prop} (h : Post (m >>= f) good ill) : Post m (fun a => Post (f a) good ill) ill := by
  cases m with
  | ok a => exact h
  | bad l k => exact h
  | out => exact h
theorem post_mono {α : Type} {m : Rs α} {g g' : α → Prop} {i i' : Nat → Nat → Prop} (h : Post m g i) (hg : ∀ a, g a → g' a) (hi : ∀ l k, i l k → i' l k) : Post m g' i' := by
  cases m with
  | ok a => exact hg a h
  | bad l k => exact hi l k h
  | out => exact h
/-- the next piece's sort (0 at the end) -/
def hd (r : List Pc) : Nat := match r with
  | (c, _, _) :: _ => c
  | [] => 0
/-- the next piece is wrong -/
def ill {α : Type} (r : List Pc) : Rs α := match r with
  | (_, l, k) :: _ => .bad l k
  | [] => .out
def want (s : Nat) (r : List Pc) : Rs (List Pc) := if hd r = s then .ok r.tail else ill r
/-- sorts by numbers -/
def sorts : List String := ["end", "name", "number", "wrong", "module", "use", "struct", "int", "uint", "void", "if", "else", "while", "do", "for", "break", "continue", "switch", "case", "default", "return", "out", "assert", "in", "more", "length", "mod",
  "<<", ">>", "<=", ">=", "==", "!=", "&&", "||", "+", "-", "*", "/", "&", "|", "^", "~", "!", "<", ">", "=", "?", ":", ";", ",", ".", "(", ")", "[", "]", "{", "}"]
def strn (c : Nat) : Nat := match c with
  | 34 => 1 | 33 => 2 | 40 => 3 | 41 => 4 | 39 => 5 | 31 => 6 | 32 => 6 | 44 => 7 | 29 => 7 | 45 => 7 | 30 => 7 | 27 => 8 | 28 => 8 | 35 => 9 | 36 => 9 | 37 => 10 | 38 => 10 | 26 => 10
  | _ => 0
/-! ### expressions. What is held: 0 one sign, 1 two, 2 a call, 3 a bracket, 4 an index, 5 a choice's middle, 6 its last part; with the strength -/
structure Es where
  r : List Pc
  n : Nat
  d : Int
  h : List (Nat × Nat)
  b : Bool
def counted (s : Es) : Rs Es := if 120 ≤ s.n then ill s.r else .ok { s with r := s.r.tail, n := s.n + 1 }
def take1 (s : Es) : Es := { s with r := s.r.tail, n := s.n + 1 }
def wantE (c : Nat) (s : Es) : Rs Es := if hd s.r = c then .ok (take1 s) else ill s.r
def within (t : Nat) (s : Es) : Rs Es := if 30 < s.d + 1 then ill s.r else .ok { s with d := s.d + 1, h := (t, 0) :: s.h }
/-- one piece that begins: whole or not -/
def begin1 (s : Es) : Rs (Bool × Es) := match hd s.r with
  | 2 => do let s ← counted s; pure (true, { s with b := false })
  | 1 => do
    let s ← counted s
    if hd s.r = 52 then
      let s := take1 s
      if hd s.r = 53 then pure (true, { take1 s with b := true })
      else do let s ← within 2 s; pure (false, s)
    else pure (true, { s with b := false })
  | 52 => do let s ← counted s; let s ← within 3 s; pure (false, s)
  | _ => do let s ← counted s; let s ← wantE 52 s; let s ← wantE 53 s; pure (true, { s with b := false })
def isAhead (c : Nat) : Bool := c == 43 || c == 42 || c == 36
def isBegin (c : Nat) : Bool := c == 2 || c == 1 || c == 23 || c == 24 || c == 52
def operand : Nat → Es → Rs Es
  | 0, _ => .out
  | f + 1, s =>
    if isAhead (hd s.r) then operand f { take1 s with h := (0, 11) :: s.h }
    else if isBegin (hd s.r) then do
      let (w, s) ← begin1 s
      if w then pure s else operand f s
    else ill s.r
def settle (k : Nat) : List (Nat × Nat) → Bool → List (Nat × Nat) × Bool
  | [], b => ([], b)
  | (t, m) :: h, b => if k ≤ m then settle k h false else ((t, m) :: h, b)
def set1 (k : Nat) (s : Es) : Es := { s with h := (settle k s.h s.b).1, b := (settle k s.h s.b).2 }
def thirds : List (Nat × Nat) → Int → Bool → List (Nat × Nat) × Int × Bool
  | [], d, b => ([], d, b)
  | (t, m) :: h, d, b => if t = 6 then thirds h (d - 1) false else ((t, m) :: h, d, b)
def setAll (s : Es) : Es := let s1 := set1 1 s; let (h, d, b) := thirds s1.h s1.d s1.b; { s1 with h := h, d := d, b := b }
def closing (t : Nat) : Nat := match t with
  | 5 => 48 | 2 => 53 | 3 => 53 | _ => 55
def field (s : Es) : Rs Es := do
  let s ← counted s
  if hd s.r = 25 then pure { take1 s with b := false }
  else do let s ← wantE 1 s; pure { s with b := false }
def close (s : Es) : Rs (Bool × Es) := match s.h with
  | [] => .out
  | (t, m) :: h =>
    if t < 2 ∨ 5 < t then .out
    else if t = 5 ∧ hd s.r = 48 then pure (true, { take1 s with h := (6, 0) :: h })
    else if t = 2 ∧ hd s.r = 50 then pure (true, { take1 s with h := (2, 0) :: h })
    else do
      let s ← wantE (closing t) s
      pure (false, { s with d := s.d - 1, h := h, b := if t = 3 then s.b else t == 2 })
def behind : Nat → Es → Rs (Bool × Es)
  | 0, _ => .out
  | f + 1, s =>
    if hd s.r = 51 then do let s ← field s; behind f s
    else if hd s.r = 54 then do let s ← counted s; let s ← within 4 s; pure (true, s)
    else if strn (hd s.r) ≠ 0 then let q := set1 (strn (hd s.r)) s; pure (true, { take1 q with h := (1, strn (hd s.r)) :: q.h })
    else if hd s.r = 47 then do let s ← within 5 (take1 (set1 1 s)); pure (true, s)
    else
      let s := setAll s
      if s.h.isEmpty then pure (false, s)
      else do
        let (g, s) ← close s
        if g then pure (true, s) else behind f s
def turns : Nat → Es → Rs (Bool × List Pc)
  | 0, _ => .out
  | f + 1, s => do
    let s ← operand f s
    let (g, s) ← behind f s
    if g then turns f s else pure (s.b, s.r)
def expr (f : Nat) (d : Nat) (r : List Pc) : Rs (Bool × List Pc) := if 30 < d then ill r else turns f ⟨r, 0, (d : Int), [], false⟩
/-! ### statements -/
def isKind (c : Nat) : Bool := c == 7 || c == 8 || c == 6
def kind (r : List Pc) : Rs (List Pc) := if hd r = 6 then want 1 r.tail else pure r.tail
def many (r : List Pc) : Rs (List Pc) := if hd r = 54 then do let r ← want 2 r.tail; want 55 r else pure r
def more (f d : Nat) : Nat → List Pc → Rs (List Pc)
  | 0, _ => .out
  | g + 1, r => if hd r = 50 then do let (_, r) ← expr f d r.tail; more f d g r else pure r
def firsts (f d : Nat) (r : List Pc) : Rs (List Pc) :=
  if hd r = 46 then
    if hd r.tail = 56 then
      if hd r.tail.tail = 57 then want 57 r.tail.tail
      else do let (_, r) ← expr f d r.tail.tail; let r ← more f d f r; want 57 r
    else do let (_, r) ← expr f d r.tail; pure r
  else pure r
def decl (f d : Nat) (r : List Pc) : Rs (List Pc) := do
  let r ← kind r
  let r ← want 1 r
  let r ← many r
  firsts f (d + 1) r
def plain (f d : Nat) (r : List Pc) : Rs (List Pc) := do
  let (b, r) ← expr f (d + 1) r
  if hd r = 46 then do let (_, r) ← expr f (d + 1) r.tail; pure r
  else if b then pure r else ill r
def test (f d : Nat) (r : List Pc) : Rs (List Pc) := do
  let r ← want 52 r
  let (_, r) ← expr f (d + 1) r
  want 53 r
def isStmt (c : Nat) : Bool := c == 56 || c == 10 || c == 12 || c == 13 || c == 14 || c == 17 || c == 15 || c == 16 || c == 20 || c == 21 || c == 22
mutual
def stmts (f : Nat) (d : Nat) (r : List Pc) : Rs (List Pc) := match f with
  | 0 => .out
  | f + 1 => if hd r = 57 then pure r else do let r ← stmt f d false r; stmts f d r
def stmt (f : Nat) (d : Nat) (alone : Bool) (r : List Pc) : Rs (List Pc) := match f with
  | 0 => .out
  | f + 1 =>
    if 30 < d then ill r
    else if isStmt (hd r) then known f d r
    else if isKind (hd r) && alone then ill r
    else if isKind (hd r) then do let r ← decl f d r; want 49 r
    else do let r ← plain f d r; want 49 r
/-- the sorts that are not read here are .out: nothing is told of them -/
def known (f : Nat) (d : Nat) (r : List Pc) : Rs (List Pc) := match f with
  | 0 => .out
  | f + 1 =>
    if hd r = 56 then do let r ← stmts f (d + 1) r.tail; want 57 r
    else if hd r = 10 then do
      let r ← test f d r.tail
      let r ← stmt f (d + 1) true r
      if hd r = 11 then stmt f (d + 1) true r.tail else pure r
    else if hd r = 20 then (if hd r.tail = 49 then want 49 r.tail else do let (_, r) ← expr f (d + 1) r.tail; want 49 r)
    else if hd r = 21 then do let r ← test f d r.tail; want 49 r
    else .out
end
/-! ### items: what is not read here is .out -/
def function (f : Nat) (r : List Pc) : Rs (List Pc) := do
  let r ← want 52 r
  if hd r ≠ 53 then .out
  else do
    let r ← want 53 r
    let r ← want 56 r
    let r ← stmts f 1 r
    want 57 r
def item (f : Nat) (r : List Pc) : Rs (List Pc) :=
  if hd r = 7 then do
    let r ← kind r
    let r ← want 1 r
    if hd r = 52 then function f r else .out
  else .out
def items (f : Nat) : Nat → List Pc → Rs (List Pc)
  | 0, _ => .out
  | g + 1, r => if hd r ≠ 0 then do let r ← item f r; items f g r else pure r
def modul (f : Nat) (r : List Pc) : Rs (List Pc) := do
  let r ← want 4 r
  let r ← want 1 r
  let r ← want 49 r
  if hd r = 5 then .out else items f f r
/-- sorts of pieces: the last one alone is the end -/
def Wf : List Pc → Prop
  | [] => False
  | [t] => t.1 = 0
  | t :: u :: r => (t.1 ≠ 0 ∧ t.1 < 58) ∧ Wf (u :: r)
theorem Wf.tl {r : List Pc} (h : Wf r) (z : hd r ≠ 0) : Wf r.tail := by
  match r, h with
  | [(c, l, k)], h => exact absurd h z
  | t :: u :: r, h => exact h.2
theorem Wf.cons {r : List Pc} (h : Wf r) : ∃ c l k t, r = (c, l, k) :: t ∧ c < 58 := by
  match r, h with
  | [(c, l, k)], h => exact ⟨c, l, k, [], rfl, by have : c = 0 := h; omega⟩
  | (c, l, k) :: u :: r, h => exact ⟨c, l, k, u :: r, rfl, h.1.2⟩
end Mir

namespace My
open PySem PySem.Spec PyProof.Rows L2
/-! ### more of promises: classes, methods, defs that may raise -/
structure Cl (K : PySem.W.Frag) (mg : Str → Option Value) (x : Str) (C : Addr) : Prop where
  g : mg x = some (.ref C)
  c : Cls K C
structure Dm (K : PySem.W.Frag) (C : Addr) (m qual : Str) (st : Stmt) : Prop where
  ex : ∃ (f : Addr) (fd : FuncData), Meth K C m f ∧ FunD K m qual (defArgs st) (defBody st) (defScope st) [] [] f fd
structure Gm (P : Program) (w : World) (K : PySem.W.Frag) (mg : Str → Option Value) (base : Heap) (CX : CXT) (k : Nat) (C : Addr) (m : Str) (ps : List Str) (sp : Sp) : Prop where
  ex : ∃ (f : Addr) (fd : FuncData), Meth K C m f ∧ FnOk P w K mg base CX k f fd ps sp ∧ Binds K fd ps []
section
variable {P : Program} {w : World} {K : PySem.W.Frag} {mg : Str → Option Value} {base : Heap}
theorem Gm.mono {CX : CXT} {j k : Nat} {C : Addr} {m : Str} {ps : List Str} {sp : Sp} (h : Gm P w K mg base CX j C m ps sp) (hk : j ≤ k) : Gm P w K mg base CX k C m ps sp := by
  obtain ⟨f, fd, a, b, c⟩ := h.ex
  exact ⟨f, fd, a, b.mono hk, c⟩
theorem Df.okX {x : Str} {st : Stmt} {N ps : List Str} {k : Nat} {sp : Sp} (D : Df K mg x st) (S : FnScope N ps (defScope st)) (len : ∀ vs H Q E, sp vs H Q E → vs.length = ps.length)
    (hb : ∀ (kV doc pm : Value) (an : Option Addr) (cdv ct : Value) (us : List Value), us.length = ps.length → bindArgs (PySem.W.fnOf x x (defArgs st) (defBody st) (defScope st) .none kV doc pm an cdv ct) ⟨us, []⟩ = pure (ps.zip us))
    (hbody : ∀ (f : Addr) (cdv : Value) (A : Around) (outer : List Env) (s : Shared) (H : Hp) (vs : List V) (Q : VK) (E : XK), Room k (A.deeper (envOfC x (defScope st) s.heap.objs.size f cdv)) → sp vs H Q E →
      ∃ t, PSs (cxOf (L2.CX P w) P w K mg base N x (defScope st) f cdv A outer s H E) (defBody st) t ∧ t { nx := fun _ H' => Q .non H', rt := Q } (start N vs) H) : Gd P w K mg base (L2.CX P w) (k + 1) x ps sp := by
  obtain ⟨f, fd, hm, F⟩ := D.ex
  have lk : ∃ oc od osl, K.lookup f = some ⟨oc, od, .func fd, osl⟩ := by
    obtain ⟨oc, od, dV, kV, doc, pm, an, cdv, ct, osl, e, l, _⟩ := F.ex
    exact ⟨oc, od, osl, l⟩
  exact ⟨f, fd, hm, F.ok S len fun cdv A outer s H vs Q E hr h => hbody f cdv A outer s H vs Q E hr h, F.bindsN hb, F.kp, lk⟩
theorem Dm.ok {C : Addr} {m qual : Str} {st : Stmt} {N ps : List Str} {k : Nat} {sp : Sp} (D : Dm K C m qual st) (S : FnScope N ps (defScope st)) (len : ∀ vs H Q E, sp vs H Q E → vs.length = ps.length)
    (hb : ∀ (kV doc pm : Value) (an : Option Addr) (cdv ct : Value) (us : List Value), us.length = ps.length → bindArgs (PySem.W.fnOf m qual (defArgs st) (defBody st) (defScope st) .none kV doc pm an cdv ct) ⟨us, []⟩ = pure (ps.zip us))
    (hbody : ∀ (f : Addr) (cdv : Value) (A : Around) (outer : List Env) (s : Shared) (H : Hp) (vs : List V) (Q : VK) (E : XK), Room k (A.deeper (envOfC qual (defScope st) s.heap.objs.size f cdv)) → sp vs H Q E →
      ∃ t, PSs (cxOf CX0 P w K mg base N qual (defScope st) f cdv A outer s H E).nox (defBody st) t ∧ t { nx := fun _ H' => Q .non H', rt := Q } (start N vs) H) : Gm P w K mg base CX0 (k + 1) C m ps sp := by
  obtain ⟨f, fd, hm, F⟩ := D.ex
  refine ⟨f, fd, hm, F.ok S len fun cdv A outer s H vs Q E hr h => ?_, F.bindsN hb⟩
  obtain ⟨t, h1, h2⟩ := hbody f cdv A outer s H vs Q E hr h
  exact ⟨t, h1.nox, h2⟩
theorem Dm.okX {C : Addr} {m qual : Str} {st : Stmt} {N ps : List Str} {k : Nat} {sp : Sp} (D : Dm K C m qual st) (S : FnScope N ps (defScope st)) (len : ∀ vs H Q E, sp vs H Q E → vs.length = ps.length)
    (hb : ∀ (kV doc pm : Value) (an : Option Addr) (cdv ct : Value) (us : List Value), us.length = ps.length → bindArgs (PySem.W.fnOf m qual (defArgs st) (defBody st) (defScope st) .none kV doc pm an cdv ct) ⟨us, []⟩ = pure (ps.zip us))
    (hbody : ∀ (f : Addr) (cdv : Value) (A : Around) (outer : List Env) (s : Shared) (H : Hp) (vs : List V) (Q : VK) (E : XK), Room k (A.deeper (envOfC qual (defScope st) s.heap.objs.size f cdv)) → sp vs H Q E →
      ∃ t, PSs (cxOf (L2.CX P w) P w K mg base N qual (defScope st) f cdv A outer s H E) (defBody st) t ∧ t { nx := fun _ H' => Q .non H', rt := Q } (start N vs) H) : Gm P w K mg base (L2.CX P w) (k + 1) C m ps sp := by
  obtain ⟨f, fd, hm, F⟩ := D.ex
  exact ⟨f, fd, hm, F.ok S len fun cdv A outer s H vs Q E hr h => hbody f cdv A outer s H vs Q E hr h, F.bindsN hb⟩
end
section
variable {X : Cx} {CX : CXT} {k : Nat} {x m : Str} {ps : List Str} {sp : Sp} {E : XK} {e o : Expr} {es : List Expr} {t : TA} {ta : TE} {p pos apos : Pos} {C : Addr}
/-- o.m(..) -/
def tMethG (C : Addr) (m : Str) (sp : Sp) (E : XK) (ta : TE) (t : TA) : TE := fun σ H Q => ta σ H fun x H1 => ∃ a dx fs, x = .ref a ∧ H1 a = some (.ins C dx fs) ∧ fs.lookup m = none ∧ t σ H1 fun vs H2 => sp (x :: vs) H2 Q E
theorem pe_gm {pl : Sem Bool} (he : PE X o ta) (c : Cls X.K C) (G : Gm X.prog X.w X.K X.mg X.base CX k C m ps sp) (hr : Room k X.A) (hx : Passes CX X E) (ha : PA X (e :: es) t)
    (hst : starEach (e :: es) X.env = (false, eval e X.env) :: starEach es X.env := by rfl) (hpl : (backTo pos (starEach es X.env)).any (·.1) = false := by rfl)
    (ht : eval (.Call (.Attribute o m apos) (e :: es) [] pos) X.env = (do
      let ov ← eval o X.env
      standAt apos.atName
      let (f, first) ← holding [ov] (getMethod ov m pl)
      callWith pos f first (backTo pos (starEach (e :: es) X.env)) (backToKw pos (keywordEach [] X.env))) := by rfl) :
    PE X (.Call (.Attribute o m apos) (e :: es) [] pos) (tMethG C m sp E ta t) := by
  obtain ⟨f, fd, hm, F, hb⟩ := G.ex
  have z := pe_meth he c hm F hr hb .nil hx ha hst hpl ht
  refine ⟨fun pins s σ H Q I hw => z.run pins s σ H Q I ?_⟩
  have e0 : (fun (x : V) (H1 : Hp) => ∃ a dx fs, x = .ref a ∧ H1 a = some (.ins C dx fs) ∧ fs.lookup m = none ∧ t σ H1 fun vs H2 => sp (x :: (vs ++ [])) H2 Q E) = fun x H1 => ∃ a dx fs, x = .ref a ∧ H1 a = some (.ins C dx fs) ∧ fs.lookup m = none ∧ t σ H1 fun vs H2 => sp (x :: vs) H2 Q E := by
    funext x H1
    simp only [List.append_nil]
  show ta σ H (fun (x : V) (H1 : Hp) => ∃ a dx fs, x = .ref a ∧ H1 a = some (.ins C dx fs) ∧ fs.lookup m = none ∧ t σ H1 fun vs H2 => sp (x :: (vs ++ [])) H2 Q E)
  rw [e0]
  exact hw
theorem pe_gm0 {pl : Sem Bool} (he : PE X o ta) (c : Cls X.K C) (G : Gm X.prog X.w X.K X.mg X.base CX k C m ps sp) (hr : Room k X.A) (hx : Passes CX X E)
    (ht : eval (.Call (.Attribute o m apos) [] [] pos) X.env = (do
      let ov ← eval o X.env
      standAt apos.atName
      let (f, first) ← holding [ov] (getMethod ov m pl)
      callWith pos f first (backTo pos (starEach [] X.env)) (backToKw pos (keywordEach [] X.env))) := by rfl) :
    PE X (.Call (.Attribute o m apos) [] [] pos) (tMethG C m sp E ta tNil) := by
  obtain ⟨f, fd, hm, F, hb⟩ := G.ex
  have z := pe_meth0 he c hm F hr hb .nil hx ht
  exact ⟨fun pins s σ H Q I hw => z.run pins s σ H Q I hw⟩
end
end My
namespace My
open PySem PySem.Spec PyProof.Rows L2
def sp5 (p : V → V → V → V → V → Hp → VK → XK → Prop) : Sp := fun vs H Q E => ∃ a b c d e, vs = [a, b, c, d, e] ∧ p a b c d e H Q E
theorem len5 {p} (vs : List V) (H : Hp) (Q : VK) (E : XK) (h : sp5 p vs H Q E) : vs.length = 5 := by obtain ⟨a, b, c, d, e, rfl, _⟩ := h; rfl
end My
namespace Rd
open PySem PySem.Spec PyProof.Rows L2 My Mir
def srt (c : Nat) : Str := PySem.Str.ofString (sorts.getD c "")
theorem srt_ix : ∀ a, a < 58 → ∀ b, b < 58 → srt a = srt b → a = b := by decide +kernel
theorem srt_dec {a b : Nat} (ha : a < 58) (hb : b < 58) : decide (V.str (srt a) = V.str (srt b)) = decide (a = b) := by
  by_cases h : a = b
  · subst h; simp
  · rw [decide_eq_false h, decide_eq_false]
    intro z
    exact h (srt_ix a ha b hb (V.str.inj z))
/-- a piece at p -/
def TokAt (H : Hp) (p : Addr) (t : Pc) : Prop := ∃ (w : V) (q : Addr), H p = some (.tup [.str (srt t.1), w, .ref q]) ∧ H q = some (.tup [.int (t.2.1 : Int), .int (t.2.2 : Int)]) ∧
  (t.1 = 2 → ∃ (u : Addr) (z : Int) (kd : V), w = .ref u ∧ H u = some (.tup [.int z, kd]))
def Tks (H : Hp) : List Addr → List Pc → Prop
  | [], [] => True
  | p :: ps, t :: ts => TokAt H p t ∧ Tks H ps ts
  | _, _ => False
/-- the cursor at c: its list at l, its place n, the rest r -/
def Cur (CC : Addr) (H : Hp) (c l : Addr) (n : Nat) (r : List Pc) : Prop :=
  (∃ dx, H c = some (.ins CC dx [("pieces", .ref l), ("at", .int (n : Int))])) ∧ ∃ ps : List Addr, H l = some (.lst (ps.map V.ref)) ∧ Tks H (ps.drop n) r ∧ n + r.length ≤ 4000000
/-- all but these stays -/
def ButL (as : List Addr) (H H' : Hp) : Prop := ∀ b o, H b = some o → ¬ b ∈ as → H' b = some o
theorem ButL.refl {as : List Addr} {H : Hp} : ButL as H H := fun _ _ e _ => e
theorem ButL.trans {as : List Addr} {H H1 H2 : Hp} (a : ButL as H H1) (b : ButL as H1 H2) : ButL as H H2 := fun x o e h => b x o (a x o e h) h
theorem ButL.more {as bs : List Addr} {H H1 : Hp} (a : ButL as H H1) (h : ∀ x, x ∈ as → x ∈ bs) : ButL bs H H1 := fun x o e n => a x o e fun m => n (h x m)
theorem ButL.same {as : List Addr} {H H1 : Hp} (a : Same H H1) : ButL as H H1 := fun x o e _ => a x o e
theorem ButL.put {as : List Addr} {H : Hp} {a : Addr} {o : HO} (h : a ∈ as) : ButL as H (upd H a o) := fun x u e n => by
  rw [upd_ne (fun z => n (by rw [z]; exact h))]; exact e
theorem ButL.new {as : List Addr} {H : Hp} {a : Addr} {o : HO} (h : H a = none) : ButL as H (upd H a o) := fun x u e _ => by
  rw [upd_ne (ne_of_none e h)]; exact e
/-- none of these is a tuple -/
def Mu (as : List Addr) (H : Hp) : Prop := ∀ a, a ∈ as → ∀ xs, H a ≠ some (.tup xs)
theorem ButL.tup {as : List Addr} {H H' : Hp} (h : ButL as H H') (m : Mu as H) {p : Addr} {xs : List V} (e : H p = some (.tup xs)) : H' p = some (.tup xs) := h p _ e fun z => m p z xs e
theorem TokAt.keep {as : List Addr} {H H' : Hp} (h : ButL as H H') (m : Mu as H) {p : Addr} {t : Pc} (x : TokAt H p t) : TokAt H' p t := by
  obtain ⟨w, q, a, b, c⟩ := x
  exact ⟨w, q, h.tup m a, h.tup m b, fun z => by
    obtain ⟨u, i, kd, e, f⟩ := c z
    exact ⟨u, i, kd, e, h.tup m f⟩⟩
theorem Tks.keep {as : List Addr} {H H' : Hp} (h : ButL as H H') (m : Mu as H) : ∀ {ps : List Addr} {ts : List Pc}, Tks H ps ts → Tks H' ps ts
  | [], [], _ => trivial
  | p :: ps, t :: ts, x => ⟨TokAt.keep h m x.1, Tks.keep h m x.2⟩
  | [], _ :: _, x => x.elim
  | _ :: _, [], x => x.elim
theorem mu1 {H : Hp} {c CC dx : Addr} {fs : List (Str × V)} (h : H c = some (.ins CC dx fs)) : Mu [c] H := by
  intro a ha xs e
  have z : a = c := by simpa using ha
  rw [z, h] at e
  cases e
/-- what is let out: BadText of this line and column; all but these stays -/
def Bad (CB : Addr) (as : List Addr) (H : Hp) (E : XK) (l k : Nat) : Prop := ∀ (d : Addr) (H' : Hp), ButL as H H' → H' d = some (.xd (btFs (.int (l : Int)) (.int (k : Int)))) → E (.ref CB) (some d) H'
theorem Bad.after {CB : Addr} {as : List Addr} {H H' : Hp} {E : XK} {l k : Nat} (h : Bad CB as H E l k) (b : ButL as H H') : Bad CB as H' E l k := fun d H2 b2 e => h d H2 (b.trans b2) e
theorem Bad.less {CB : Addr} {as bs : List Addr} {H : Hp} {E : XK} {l k : Nat} (h : Bad CB bs H E l k) (s : ∀ x, x ∈ as → x ∈ bs) : Bad CB as H E l k := fun d H2 b2 e => h d H2 (b2.more s) e
/-- a def that moves a cursor -/
def Runs (CC CB : Addr) {α : Type} (F : List Pc → Rs (α × List Pc)) (Rel : α → V → Hp → Prop) (c : Addr) (H : Hp) (Q : VK) (E : XK) : Prop := ∃ (l : Addr) (n : Nat) (r : List Pc), Cur CC H c l n r ∧ Wf r ∧
  Post (F r) (fun a => ∀ (v : V) (n' : Nat) (H' : Hp), ButL [c] H H' → Cur CC H' c l n' a.2 → Wf a.2 → n' + a.2.length = n + r.length → Rel a.1 v H' → Q v H') (Bad CB [c] H E)
def RunsU (CC CB : Addr) (F : List Pc → Rs (List Pc)) (c : Addr) (H : Hp) (Q : VK) (E : XK) : Prop := ∃ (l : Addr) (n : Nat) (r : List Pc), Cur CC H c l n r ∧ Wf r ∧
  Post (F r) (fun r' => ∀ (v : V) (n' : Nat) (H' : Hp), ButL [c] H H' → Cur CC H' c l n' r' → Wf r' → n' + r'.length = n + r.length → Q v H') (Bad CB [c] H E)
theorem Cur.keep {CC c l : Addr} {n : Nat} {r : List Pc} {as : List Addr} {H H' : Hp} (x : Cur CC H c l n r) (h : ButL as H H') (m : Mu as H) (hc : ¬ c ∈ as) (hl : ¬ l ∈ as) : Cur CC H' c l n r := by
  obtain ⟨⟨dx, a⟩, ps, b, t, z⟩ := x
  exact ⟨⟨dx, h _ _ a hc⟩, ps, h _ _ b hl, Tks.keep h m t, z⟩
/-- something new is laid -/
theorem Cur.laid {CC c l a : Addr} {n : Nat} {r : List Pc} {H : Hp} {o : HO} (x : Cur CC H c l n r) (h : H a = none) : Cur CC (upd H a o) c l n r := x.keep (as := []) (ButL.new h) (fun a ha => by cases ha) (by simp) (by simp)
/-- the piece ahead -/
theorem Cur.tok {CC c l : Addr} {n : Nat} {r : List Pc} {H : Hp} (x : Cur CC H c l n r) (w : Wf r) : ∃ (ps : List Addr) (p : Addr) (t : Pc) (ts : List Pc) (dx : Addr), r = t :: ts ∧ t.1 < 58 ∧ H c = some (.ins CC dx [("pieces", .ref l), ("at", .int (n : Int))]) ∧
    H l = some (.lst (ps.map V.ref)) ∧ ps[n]? = some p ∧ TokAt H p t ∧ Tks H (ps.drop (n + 1)) ts ∧ n + 1 + ts.length ≤ 4000000 := by
  obtain ⟨⟨dx, a⟩, ps, b, t, zz⟩ := x
  obtain ⟨c', l', k', ts, rfl, hc⟩ := w.cons
  cases e : ps.drop n with
  | nil =>
    rw [e] at t
    exact t.elim
  | cons p qs =>
    rw [e] at t
    have hn : n < ps.length := by
      have z := congrArg List.length e
      rw [List.length_drop, List.length_cons] at z
      omega
    have e2 := List.drop_eq_getElem_cons hn
    rw [e] at e2
    obtain ⟨e3, e4⟩ := List.cons.inj e2
    refine ⟨ps, p, (c', l', k'), ts, dx, rfl, hc, a, b, ?_, t.1, ?_⟩
    · rw [List.getElem?_eq_getElem hn, e3]
    · refine ⟨by rw [← e4]; exact t.2, ?_⟩
      have zz' : n + (ts.length + 1) ≤ 4000000 := zz
      omega
end Rd

namespace Zp
open PySem PySem.Spec PyProof.Rows L2
/-! ### zip of three lists -/
def It3 (K : PySem.W.Frag) (a b c : Addr) (xs ys zs : List V) : It :=
  ⟨fun i H => SqL K H a xs ∧ SqL K H b ys ∧ SqL K H c zs ∧ i < xs.length ∧ i < ys.length ∧ i < zs.length,
   fun i H v H' => ∃ T x y z, v = .ref T ∧ H T = none ∧ H' = upd H T (.tup [x, y, z]) ∧ xs[i]? = some x ∧ ys[i]? = some y ∧ zs[i]? = some z,
   fun i H => SqL K H a xs ∧ SqL K H b ys ∧ SqL K H c zs ∧ i = xs.length ∧ i = ys.length ∧ i = zs.length⟩
structure Far (z TI TO i1 i2 i3 a b c : Addr) : Prop where
  sep : ZipSep3 z TI TO i1 i2 i3 [i1, a] [i2, b] [i3, c]
  a1 : a ≠ i1
  b2 : b ≠ i2
  c3 : c ≠ i3
  tiz : TI ≠ z
  tito : TI ≠ TO
  ti1 : TI ≠ i1
  ti2 : TI ≠ i2
  ti3 : TI ≠ i3
theorem turn3 {P : Program} {w : World} {K : PySem.W.Frag} {elts : List Expr} {kk : Nat} {tpos : Pos} {a b c z TI TO i1 i2 i3 : Addr} {xs ys zs : List V} (D : Far z TI TO i1 i2 i3 a b c) :
    Turn P w K (.Tuple elts kk tpos) (It3 K a b c xs ys zs) [z, TI, TO, i1, i2, i3] z
      (fun i h => IsZip h z TI TO .none ∧ IsTupOf3 h TI (.ref i1) (.ref i2) (.ref i3) ∧ (∃ u v w, IsTupOf3 h TO u v w) ∧ h.IsListIter i1 a i ∧ h.IsListIter i2 b i ∧ h.IsListIter i3 c i) where
  mem := by simp
  obj := fun i h st q hq => by
    obtain ⟨s1, s2, ⟨u, v, w, s3⟩, ⟨o1, e1, _, d1⟩, ⟨o2, e2, _, d2⟩, ⟨o3, e3, _, d3⟩⟩ := st
    have cs : q = z ∨ q = TI ∨ q = TO ∨ q = i1 ∨ q = i2 ∨ q = i3 := by simpa using hq
    rcases cs with rfl | rfl | rfl | rfl | rfl | rfl
    · exact ⟨_, s1, fun v n => nomatch n⟩
    · exact ⟨_, s2, fun v n => nomatch n⟩
    · exact ⟨_, s3, fun v n => nomatch n⟩
    · exact ⟨o1, e1, fun v n => by rw [d1] at n; cases n⟩
    · exact ⟨o2, e2, fun v n => by rw [d2] at n; cases n⟩
    · exact ⟨o3, e3, fun v n => by rw [d3] at n; cases n⟩
  keep := fun i h h' st k => by
    obtain ⟨s1, s2, ⟨u, v, w, s3⟩, t1, t2, t3⟩ := st
    exact ⟨k z (by simp) _ s1, k TI (by simp) _ s2, ⟨u, v, w, k TO (by simp) _ s3⟩, t1.at fun o e => k i1 (by simp) o e, t2.at fun o e => k i2 (by simp) o e, t3.at fun o e => k i3 (by simp) o e⟩
  item := by
    intro X eP ew eK hcalm i pins s σ H E I far st go
    subst eP ew eK
    obtain ⟨s1, s2, s3, t1, t2, t3⟩ := st
    obtain ⟨qa, qb, qc, la, lb, lc⟩ := go
    obtain ⟨us, ra, pa, _⟩ := I.list qa
    obtain ⟨vs, rb, pb, _⟩ := I.list qb
    obtain ⟨ws, rc, pc, _⟩ := I.list qc
    have na := ra.length
    have nb := rb.length
    have nc := rc.length
    have hh : (X.A.in1).handled = none := I.ok.hd hcalm
    have G := GoesN.zip3 (prog := X.prog) (w := X.w) (A := X.A) (elts := elts) (x1 := kk) (pos := tpos) D.sep (Draws.list hh i1 a D.a1 us.toArray) (Draws.list hh i2 b D.b2 vs.toArray) (Draws.list hh i3 c D.c3 ws.toArray)
    have lts : ∀ q ∈ ([z, TI, TO, i1, i2, i3] : List Addr), q < s.heap.objs.size := fun q hq => by
      obtain ⟨u, v, w, s3⟩ := s3
      obtain ⟨o1, e1, _⟩ := t1
      obtain ⟨o2, e2, _⟩ := t2
      obtain ⟨o3, e3, _⟩ := t3
      have cs : q = z ∨ q = TI ∨ q = TO ∨ q = i1 ∨ q = i2 ∨ q = i3 := by simpa using hq
      rcases cs with e | e | e | e | e | e
      · rw [e]; exact Heap.lt_size s1
      · rw [e]; exact Heap.lt_size s2
      · rw [e]; exact Heap.lt_size s3
      · rw [e]; exact Heap.lt_size e1
      · rw [e]; exact Heap.lt_size e2
      · rw [e]; exact Heap.lt_size e3
    have hmin : i < min (min us.toArray.size vs.toArray.size) ws.toArray.size := by simp only [List.size_toArray]; omega
    refine wpAny_mono (G.goes i s (fun v s2 => ∃ x H', Inv X pins σ H' s2 ∧ RelV x v ∧ (It3 X.K a b c xs ys zs).yld i H x H' ∧
      (IsZip s2.heap z TI TO .none ∧ IsTupOf3 s2.heap TI (.ref i1) (.ref i2) (.ref i3) ∧ (∃ u v w, IsTupOf3 s2.heap TO u v w) ∧ s2.heap.IsListIter i1 a (i + 1) ∧ s2.heap.IsListIter i2 b (i + 1) ∧ s2.heap.IsListIter i3 c (i + 1)) ∧ ∀ q ∈ [z, TI, TO, i1, i2, i3], H' q = none)
      E hmin ⟨s1, s2, s3, ⟨t1, pa.isList⟩, ⟨t2, pb.isList⟩, ⟨t3, pc.isList⟩⟩ fun v h' tk hY st' hk htk => ?_) (fun r s4 ⟨v, er, hv⟩ => ⟨v, er, hv⟩) fun _ _ e => e
    obtain ⟨T, u1, u2, u3, rfl, hnew, y1, y2, y3, oT, eT, cT, nT, dT⟩ := hY
    obtain ⟨z1, z2, z3, ⟨k1, _⟩, ⟨k2, _⟩, ⟨k3, _⟩⟩ := st'
    obtain ⟨x, ex⟩ : ∃ x, xs[i]? = some x := ⟨xs[i], List.getElem?_eq_getElem la⟩
    obtain ⟨y, ey⟩ : ∃ y, ys[i]? = some y := ⟨ys[i], List.getElem?_eq_getElem lb⟩
    obtain ⟨q, eq⟩ : ∃ q, zs[i]? = some q := ⟨zs[i], List.getElem?_eq_getElem lc⟩
    obtain ⟨x', gx, rx⟩ := ra.get ex
    obtain ⟨y', gy, ry⟩ := rb.get ey
    obtain ⟨q', gq, rq⟩ := rc.get eq
    have f1 : u1 = x' := by
      have : us[i]? = some u1 := by simpa using y1
      rw [gx] at this; injection this with this; exact this.symm
    have f2 : u2 = y' := by
      have : vs[i]? = some u2 := by simpa using y2
      rw [gy] at this; injection this with this; exact this.symm
    have f3 : u3 = q' := by
      have : ws[i]? = some u3 := by simpa using y3
      rw [gq] at this; injection this with this; exact this.symm
    subst f1 f2 f3
    have new : ObjOk X.prog X.w (upd H T (.tup [x, y, q])) h' T (.tup [x, y, q]) :=
      ⟨by show 3 ≤ sizeLine; decide, [u1, u2, u3], .cons rx (.cons ry (.cons rq .nil)), ⟨_, eT, cT, nT, dT⟩⟩
    have J : Inv X pins σ (upd H T (.tup [x, y, q])) { s with heap := h', toks := tk } :=
      I.turnedNew (ch := [z, TI, TO, i1, i2, i3]) (fun q o nb e => hk q o (fun m => nb (by
        have cs : q = z ∨ q = TO ∨ q = i1 ∨ q = i2 ∨ q = i3 := by simpa using m
        rcases cs with e | e | e | e | e <;> simp [e])) e) far hnew new
    refine ⟨.ref T, _, J, rfl, ⟨T, x, y, q, rfl, I.hok.fresh hnew, rfl, ex, ey, eq⟩, ⟨z1, z2, z3, k1, k2, k3⟩, fun b hb => ?_⟩
    rw [upd_ne (Nat.ne_of_lt (Nat.lt_of_lt_of_le (lts b hb) hnew))]
    exact (far b hb).1
  done := by
    intro X eP ew eK hcalm i pins s σ H E I far st stop
    subst eP ew eK
    obtain ⟨s1, s2, s3, t1, t2, t3⟩ := st
    obtain ⟨qa, qb, qc, la, lb, lc⟩ := stop
    obtain ⟨us, ra, pa, _⟩ := I.list qa
    obtain ⟨vs, rb, pb, _⟩ := I.list qb
    obtain ⟨ws, rc, pc, _⟩ := I.list qc
    have na := ra.length
    have nb := rb.length
    have nc := rc.length
    have hh : (X.A.in1).handled = none := I.ok.hd hcalm
    have G := GoesN.zip3 (prog := X.prog) (w := X.w) (A := X.A) (elts := elts) (x1 := kk) (pos := tpos) D.sep (Draws.list hh i1 a D.a1 us.toArray) (Draws.list hh i2 b D.b2 vs.toArray) (Draws.list hh i3 c D.c3 ws.toArray)
    have hmin : min (min us.toArray.size vs.toArray.size) ws.toArray.size = i := by simp only [List.size_toArray]; omega
    rw [hmin] at G
    refine G.stops s (fun s2 => Inv X pins σ H s2) E ⟨s1, s2, s3, ⟨t1, pa.isList⟩, ⟨t2, pb.isList⟩, ⟨t3, pc.isList⟩⟩ fun h' tk hk htk => ?_
    exact I.turnedL (ch := [z, TI, TO, i1, i2, i3]) (fun q o nb e => hk q o (fun m => nb (by
        have cs : q = z ∨ q = TO ∨ q = i1 ∨ q = i2 ∨ q = i3 := by simpa using m
        rcases cs with e | e | e | e | e <;> simp [e])) e) far
  self := fun A i s Q E st h => wpAny_pyIter_zip st.1 h
def iZip3 (K : PySem.W.Frag) (ta : TA) : TI := fun σ H R => ta σ H fun vs H1 => ∃ a b c xs ys zs, vs = [.ref a, .ref b, .ref c] ∧ SqL K H1 a xs ∧ SqL K H1 b ys ∧ SqL K H1 c zs ∧ R (It3 K a b c xs ys zs) H1
theorem pi_zip3 {X : Cx} {e e2 e3 : Expr} {ta : TA} {p pos tpos : Pos} {elts : List Expr} {kk : Nat} (hg : Gl X "zip") (hm : X.mg "zip" = none) (ha : PA X [e, e2, e3] ta)
    (hs : starEach [e, e2, e3] X.env = (false, eval e X.env) :: starEach [e2, e3] X.env := by rfl) (hpl : (backTo pos (starEach [e2, e3] X.env)).any (·.1) = false := by rfl) :
    PI X (.Tuple elts kk tpos) (.Call (.Name "zip" p) [e, e2, e3] [] pos) (iZip3 X.K ta) := by
  refine ⟨fun pins s σ H R I hw => ?_⟩
  refine Call_ (ld_blt I hg hm PyProof.Rows.boot_zip (PyProof.Rows.callWith_type1 (thn (ha.run pos pins s σ H _ I hw) fun us s1 ⟨vs, H1, I1, r1, q1⟩ => ?_) hs hpl))
  obtain ⟨a, b, c, xs, ys, zs, rfl, qa, qb, qc, q⟩ := q1
  cases r1 with
  | cons ra rr =>
    cases rr with
    | cons rb rr =>
      cases rr with
      | cons rc rr =>
        cases rr
        cases ra
        cases rb
        cases rc
        obtain ⟨us, va, pa, _⟩ := I1.list qa
        obtain ⟨ws, vb, pb, _⟩ := I1.list qb
        obtain ⟨ts, vc, pc, _⟩ := I1.list qc
        have la : a < s1.heap.objs.size := pa.lt
        have lb : b < s1.heap.objs.size := pb.lt
        have lc : c < s1.heap.objs.size := pc.lt
        refine zip_begins3 (begins_list a us.toArray) (begins_list b ws.toArray) (begins_list c ts.toArray) pa.isList pb.isList pc.isList fun h' hz hTI hTO h1 h2 h3 hsz hk => wpAny_pyIter_zip hz ?_
        have J : Inv X pins σ H1 { s1 with heap := h' } := I1.kept (t' := s1.toks) hk
        generalize hN : s1.heap.objs.size = N at *
        have far : Far (N + 5) (N + 3) (N + 4) N (N + 1) (N + 2) a b c :=
          { sep := zip_sep3 (by intro q hq; have : q = a := by simpa using hq
                                rw [this]; exact la) (by intro q hq; have : q = b := by simpa using hq
                                                         rw [this]; exact lb) (by intro q hq; have : q = c := by simpa using hq
                                                                                  rw [this]; exact lc)
            a1 := Nat.ne_of_lt la, b2 := Nat.ne_of_lt (Nat.lt_succ_of_lt lb), c3 := Nat.ne_of_lt (Nat.lt_succ_of_lt (Nat.lt_succ_of_lt lc))
            tiz := show (N + 3 : Nat) ≠ N + 5 by omega, tito := show (N + 3 : Nat) ≠ N + 4 by omega, ti1 := show (N + 3 : Nat) ≠ N by omega, ti2 := show (N + 3 : Nat) ≠ N + 1 by omega, ti3 := show (N + 3 : Nat) ≠ N + 2 by omega }
        refine ⟨N + 5, [N + 5, N + 3, N + 4, N, N + 1, N + 2], _, _, H1, rfl, J, turn3 far, ⟨hz, hTI, ⟨_, _, _, hTO⟩, ⟨_, h1, rfl, rfl⟩, ⟨_, h2, rfl, rfl⟩, ⟨_, h3, rfl, rfl⟩⟩, fun x hx => ?_, q⟩
        have cs : x = N + 5 ∨ x = N + 3 ∨ x = N + 4 ∨ x = N ∨ x = N + 1 ∨ x = N + 2 := by simpa using hx
        have le : N ≤ x := by
          rcases cs with e | e | e | e | e | e
          · rw [e]; exact Nat.le_add_right N 5
          · rw [e]; exact Nat.le_add_right N 3
          · rw [e]; exact Nat.le_add_right N 4
          · rw [e]; exact Nat.le_refl N
          · rw [e]; exact Nat.le_add_right N 1
          · rw [e]; exact Nat.le_add_right N 2
        have le' : s1.heap.objs.size ≤ x := by rw [hN]; exact le
        exact I1.fpOk le' (I1.hok.fresh le')
theorem walk3 {K : PySem.W.Frag} {a b c : Addr} {xs ys zs : List V} (h1 : ys.length = xs.length) (h2 : zs.length = xs.length) :
    Walk (It3 K a b c xs ys zs) xs.length (fun H => SqL K H a xs ∧ SqL K H b ys ∧ SqL K H c zs)
      (fun i H v H' => ∃ T x y z, v = .ref T ∧ H T = none ∧ H' = upd H T (.tup [x, y, z]) ∧ xs[i]? = some x ∧ ys[i]? = some y ∧ zs[i]? = some z) :=
  ⟨fun i H hi q => ⟨q.1, q.2.1, q.2.2, hi, by omega, by omega⟩, fun H q => ⟨q.1, q.2.1, q.2.2, rfl, h1.symm, h2.symm⟩, fun _ _ _ _ _ _ y => y⟩
end Zp

namespace Kg
open PySem PySem.Spec PyProof.Rows L2
/-! ### d.get(k, x) of a written dict whose keys are ints -/
structure KInt (K : PySem.W.Frag) (d : Addr) (es : Array DictEntry) (n : Nat) : Prop where
  at_ : K.lookup d = some ⟨.type "dict", none, .dict es n, #[]⟩
  lit : ∀ e ∈ es, ∃ k t, e.key = .int k t ∧ e.hash = hashInt k
  low : (d == sysModules) = false
theorem KInt.map {prog : Program} {w : World} {K : PySem.W.Frag} {d : Addr} {es : Array DictEntry} {n : Nat} {h : Heap} (D : KInt K d es n) (X : K.In h) : h.MapOf (intKind prog w) d (fun k => findBy Value.isInt es k) :=
  ⟨_, es, n, X _ _ D.at_, ⟨rfl, rfl, rfl⟩, rfl, fun e he => by
    obtain ⟨k, t, a, b⟩ := D.lit e he
    exact ⟨k, by rw [a]; exact intKind_is prog w k t, b⟩, fun _ => rfl⟩
def tKGet (d : Addr) (es : Array DictEntry) (td ty tx : TE) : TE := fun σ H Q => td σ H fun x H1 => x = .ref d ∧ ty σ H1 fun y H2 => tx σ H2 fun z H3 => ∃ (k : Int) (u : Value) (v : V), y = .int k ∧ findBy Value.isInt es k = some u ∧ RelV v u ∧ Q v H3
theorem pe_kget {X : Cx} {o e f : Expr} {apos cpos : Pos} {td ty tx : TE} {d : Addr} {es : Array DictEntry} {n : Nat} (D : KInt X.K d es n) (ho : PE X o td) (he : PE X e ty) (hf : PE X f tx) (m : M2 X o "get" apos e f cpos) :
    PE X (.Call (.Attribute o "get" apos) [e, f] [] cpos) (tKGet d es td ty tx) := by
  refine ⟨fun pins s σ H Q I hw => ?_⟩
  refine wpAny_Call_method m.base m.few m.line PySem.F.plainAttrs_dict PySem.F.slot_dict_get PySem.F.type_dict_get (thn (ho.run pins s σ H _ I hw) fun u s1 ⟨x, H1, I1, rx, ex, q1⟩ => ?_)
  subst ex
  obtain rfl : u = Value.ref d := rx
  have M1 := D.map (prog := X.prog) (w := X.w) I1.kIn
  refine ⟨M1.typeIs, fun b q => ?_, ?_⟩
  · cases q
    exact ⟨_, I1.kIn _ _ D.at_, rfl⟩
  rw [m.trees]
  refine Calls.callWith_builtin rfl (Calls.evalArgs_plain (Calls.spliced_cons (thn (he.run pins s1 σ H1 _ I1 q1) fun kv s2 ⟨y, H2, I2, ry, q2⟩ =>
    Calls.spliced_cons (thn (hf.run pins s2 σ H2 _ I2 q2) fun fv s3 ⟨z, H3, I3, rz, k, u, v, ey, hk, ru, q3⟩ => Calls.spliced_nil ?_))))
  subst ey
  obtain ⟨t, rfl⟩ := ry
  have M3 := D.map (prog := X.prog) (w := X.w) I3.kIn
  refine call_meetsIn PySem.F.slot_dict_get M3.typeIs PySem.F.entry_dict_get (PySem.F.args_dict_get_3 _ _ _) (meets_dict_get_default (intKind X.prog X.w) d (intKind_is _ _ k t) D.low fv) ⟨_, M3, v, H3, I3.tok _, ?_, q3⟩
  rw [hk]
  exact ru
/-! ### written tuples, told by a Bool of the written part -/
def tupA (K : PySem.W.Frag) (u : Value) (vs : List V) : Bool := match u with
  | .ref a => match K.lookup a with
    | some ⟨.type c, _, .seq its _, _⟩ => decide (c = "tuple") && (decide (its.size ≤ sizeLine) && He.relAll vs its.toList)
    | _ => false
  | _ => false
theorem tupA_ok {K : PySem.W.Frag} {u : Value} {vs : List V} (h : tupA K u vs = true) : ∃ a, u = .ref a ∧ ∀ H : Hp, SqT K H a vs := by
  unfold tupA at h
  split at h
  · rename_i a
    refine ⟨a, rfl, fun H => ?_⟩
    split at h
    · rename_i c od its n osl hl
      obtain ⟨h1, h2⟩ := He.ba h
      obtain ⟨h2, h3⟩ := He.ba h2
      have e1 : c = "tuple" := of_decide_eq_true h1
      subst e1
      exact Or.inr ⟨_, its, n, hl, rfl, rfl, of_decide_eq_true h2, He.relAll_ok h3⟩
    · cases h
  · cases h
/-- a written dict's entry at a text is this tuple -/
def entA (K : PySem.W.Frag) (d : Addr) (x : Str) (vs : List V) : Bool := match PySem.W.nsIn K d x with
  | some (some u) => tupA K u vs
  | _ => false
theorem entA_ok {K : PySem.W.Frag} {d : Addr} {x : Str} {vs : List V} (h : entA K d x vs = true) : ∃ a, PySem.W.nsIn K d x = some (some (.ref a)) ∧ ∀ H : Hp, SqT K H a vs := by
  unfold entA at h
  split at h
  · rename_i u hu
    obtain ⟨a, rfl, q⟩ := tupA_ok h
    exact ⟨a, hu, q⟩
  · cases h
def intOk (e : DictEntry) : Bool := match e.key with
  | .int k _ => decide (e.hash = hashInt k)
  | _ => false
theorem intOk_ok {e : DictEntry} (h : intOk e = true) : ∃ k t, e.key = .int k t ∧ e.hash = hashInt k := by
  unfold intOk at h
  split at h
  · rename_i k t hk
    exact ⟨k, t, hk, of_decide_eq_true h⟩
  · cases h
/-- a written dict with int keys; at each of these ints this tuple of texts -/
def kintB (K : PySem.W.Frag) (d : Addr) (qs : List (Int × List V)) : Bool := match K.lookup d with
  | some ⟨.type c, none, .dict es _, sl⟩ => decide (c = "dict") && (decide (sl.toList = []) && (!(d == sysModules) && (es.all intOk && qs.all fun q => match findBy Value.isInt es q.1 with
    | some u => tupA K u q.2
    | none => false)))
  | _ => false
theorem kintB_ok {K : PySem.W.Frag} {d : Addr} {qs : List (Int × List V)} (h : kintB K d qs = true) : ∃ es n, KInt K d es n ∧ ∀ q ∈ qs, ∃ a, findBy Value.isInt es q.1 = some (.ref a) ∧ ∀ H : Hp, SqT K H a q.2 := by
  unfold kintB at h
  split at h
  · rename_i c es n sl hl
    obtain ⟨h1, h⟩ := He.ba h
    obtain ⟨h2, h⟩ := He.ba h
    obtain ⟨h3, h⟩ := He.ba h
    obtain ⟨h4, h5⟩ := He.ba h
    have e1 : c = "dict" := of_decide_eq_true h1
    have e2 : sl = #[] := by apply Array.ext'; exact of_decide_eq_true h2
    subst e1 e2
    refine ⟨es, n, ⟨hl, fun e he => intOk_ok (Array.all_eq_true_iff_forall_mem.mp h4 e he), by simpa using h3⟩, fun q hq => ?_⟩
    have h6 := List.all_eq_true.mp h5 q hq
    split at h6
    · rename_i u hu
      obtain ⟨a, rfl, r⟩ := tupA_ok h6
      exact ⟨a, hu, r⟩
    · cases h6
  · cases h
end Kg

namespace K70
open PySem PySem.Spec PyProof.Rows L2 My
/-! ### lines, and what they take -/
inductive Ln where
  | lab (n : Nat) | br (o g : Nat) | nop | stop | jmp (g : Nat)
deriving DecidableEq
def behind : List Ln → List Nat
  | .lab n :: r => n :: behind r
  | _ => []
def size0 : Ln → List Ln → Nat
  | .lab _, _ => 0
  | .jmp g, r => if g ∈ behind r then 0 else 1
  | _, _ => 1
def isBr : Ln → Bool
  | .br _ _ => true
  | _ => false
def szs (F : Nat → Bool) : Nat → List Ln → List Nat
  | _, [] => []
  | i, l :: r => (if (isBr l && F i) = true then 2 else size0 l r) :: szs F (i + 1) r
theorem szs_len (F : Nat → Bool) : ∀ (ls : List Ln) (i : Nat), (szs F i ls).length = ls.length
  | [], _ => rfl
  | l :: r, i => by rw [szs, List.length_cons, List.length_cons, szs_len F r]
def starts : Nat → List Nat → List Nat
  | _, [] => []
  | s, z :: zs => s :: starts (s + z) zs
theorem starts_len : ∀ (zs : List Nat) (s : Nat), (starts s zs).length = zs.length
  | [], _ => rfl
  | z :: zs, s => by rw [starts, List.length_cons, List.length_cons, starts_len zs]
theorem starts_at : ∀ (zs : List Nat) (s i : Nat), i < zs.length → (starts s zs)[i]? = some (s + (zs.take i).sum)
  | [], _, i, h => by simp at h
  | z :: zs, s, 0, _ => by simp [starts]
  | z :: zs, s, i + 1, h => by
    have q := starts_at zs (s + z) i (by simpa using h)
    simp only [starts, List.getElem?_cons_succ, List.take_succ_cons, List.sum_cons]
    rw [q, Nat.add_assoc]
def labs : Nat → List Ln → List Nat → List (Key × V) → List (Key × V)
  | s, l :: ls, z :: zs, acc => labs (s + z) ls zs (match l with
    | .lab n => putK acc (.inl (n : Int)) (.int (s : Int))
    | _ => acc)
  | _, _, _, acc => acc
def labPos (g : Nat) : Nat → List Ln → List Nat → Option Nat
  | s, l :: ls, z :: zs => match labPos g (s + z) ls zs with
    | some p => some p
    | none => if l = .lab g then some s else none
  | _, _, _ => none
theorem labs_get (g : Nat) : ∀ (ls : List Ln) (zs : List Nat) (s : Nat) (acc : List (Key × V)), valV (labs s ls zs acc) (.inl (g : Int)) = match labPos g s ls zs with
    | some p => some (.int (p : Int))
    | none => valV acc (.inl (g : Int))
  | [], _, _, _ => by unfold labs labPos; rfl
  | l :: ls, [], _, _ => by unfold labs labPos; rfl
  | l :: ls, z :: zs, s, acc => by
    unfold labs labPos
    rw [labs_get g ls zs (s + z)]
    cases e : labPos g (s + z) ls zs with
    | some p => rfl
    | none =>
      cases l with
      | lab n =>
        show valV (putK acc (.inl (n : Int)) (.int (s : Int))) (.inl (g : Int)) = _
        rw [valV_put]
        by_cases c : g = n
        · subst c
          rw [if_pos rfl, if_pos rfl]
        · rw [if_neg (fun z => c (by injection z with z; omega)), if_neg (fun z => c (by injection z with z; exact z.symm))]
      | _ => rfl
theorem labs_nodup : ∀ (ls : List Ln) (zs : List Nat) (s : Nat) (acc : List (Key × V)), (acc.map (·.1)).Nodup → ((labs s ls zs acc).map (·.1)).Nodup
  | [], _, _, _, h => by unfold labs; exact h
  | l :: ls, [], _, _, h => by unfold labs; exact h
  | l :: ls, z :: zs, s, acc, h => by
    unfold labs
    refine labs_nodup ls zs (s + z) _ ?_
    cases l with
    | lab n =>
      show ((putK acc (.inl (n : Int)) (.int (s : Int))).map (·.1)).Nodup
      cases e : valV acc (.inl (n : Int)) with
      | none => exact nd_putK _ h e
      | some v =>
        have q : (putK acc (.inl (n : Int)) (.int (s : Int))).map (·.1) = acc.map (·.1) := by
          unfold putK
          have : (acc.any fun kv => decide (kv.1 = (.inl (n : Int)))) = true := by
            unfold valV at e
            cases e2 : acc.find? (fun kv => decide (kv.1 = (Sum.inl (n : Int)))) with
            | none => rw [e2] at e; cases e
            | some kv =>
              have := List.find?_some e2
              exact List.any_eq_true.mpr ⟨kv, List.mem_of_find?_eq_some e2, this⟩
          simp only [this, if_true, List.map_map]
          apply List.map_congr_left
          intro kv _
          dsimp only [Function.comp]
          by_cases c : kv.1 = Sum.inl (n : Int)
          · simp [c]
          · simp [c]
        rw [q]
        exact h
    | _ => exact h
theorem nodup_get : ∀ {kvs : List (Key × V)}, (kvs.map (·.1)).Nodup → ∀ p ∈ kvs, valV kvs p.1 = some p.2
  | [], _, p, hp => by cases hp
  | q :: kvs, h, p, hp => by
    rw [List.map_cons, List.nodup_cons] at h
    unfold valV
    rw [List.find?_cons]
    by_cases c : q.1 = p.1
    · rw [show decide (q.1 = p.1) = true from decide_eq_true c]
      rcases List.mem_cons.mp hp with rfl | hp
      · rfl
      · exact absurd (by rw [c]; exact List.mem_map_of_mem hp) h.1
    · rw [show decide (q.1 = p.1) = false from decide_eq_false c]
      rcases List.mem_cons.mp hp with rfl | hp
      · exact absurd rfl c
      · exact nodup_get h.2 p hp
/-! ### places -/
def S (F : Nat → Bool) (ls : List Ln) (i : Nat) : Nat := ((szs F 0 ls).take i).sum
def lastLab (g : Nat) : List Ln → Option Nat
  | [] => none
  | l :: r => match lastLab g r with
    | some j => some (j + 1)
    | none => if l = .lab g then some 0 else none
theorem labPos_eq (g : Nat) (F : Nat → Bool) : ∀ (ls : List Ln) (i s : Nat), labPos g s ls (szs F i ls) = (lastLab g ls).map fun j => s + ((szs F i ls).take j).sum
  | [], _, _ => rfl
  | l :: r, i, s => by
    unfold szs labPos lastLab
    rw [labPos_eq g F r (i + 1)]
    cases e : lastLab g r with
    | some j => simp [Nat.add_assoc]
    | none =>
      by_cases c : l = .lab g
      · simp [c]
      · simp [c]
theorem lastLab_lt (g : Nat) : ∀ (ls : List Ln) (j : Nat), lastLab g ls = some j → j < ls.length
  | [], _, h => by cases h
  | l :: r, j, h => by
    unfold lastLab at h
    cases e : lastLab g r with
    | some k =>
      rw [e] at h
      injection h with h
      have := lastLab_lt g r k e
      simp only [List.length_cons]; omega
    | none =>
      rw [e] at h
      dsimp only at h
      split at h
      · injection h with h; simp only [List.length_cons]; omega
      · cases h
def dist (F : Nat → Bool) (ls : List Ln) (i g : Nat) : Int := (S F ls ((lastLab g ls).getD 0) : Int) - (S F ls i : Int)
def reach (d : Int) : Bool := decide (-1024 ≤ d) && decide (d ≤ 1023)
def fitsB (F : Nat → Bool) (ls : List Ln) : Prop := ∀ i o g, ls[i]? = some (.br o g) → F i = false → reach (dist F ls i g) = true
/-! more words never bring things nearer -/
theorem szs_le {F G : Nat → Bool} (h : ∀ i, F i = true → G i = true) : ∀ (ls : List Ln) (i k : Nat), (szs F i ls)[k]?.getD 0 ≤ (szs G i ls)[k]?.getD 0
  | [], _, _ => by simp [szs]
  | l :: r, i, 0 => by
    simp only [szs, List.getElem?_cons_zero, Option.getD_some]
    by_cases b : isBr l = true
    · have z : size0 l r = 1 := by cases l <;> first | rfl | cases b
      rw [b, z, Bool.true_and, Bool.true_and]
      cases f : F i with
      | true => rw [h i f]; exact Nat.le_refl _
      | false => cases G i <;> simp
    · have : isBr l = false := by simpa using b
      rw [this]
      simp
  | l :: r, i, k + 1 => by
    simp only [szs, List.getElem?_cons_succ]
    exact szs_le h r (i + 1) k
theorem sum_take_succ (xs : List Nat) (k : Nat) : (xs.take (k + 1)).sum = (xs.take k).sum + xs[k]?.getD 0 := by
  rw [List.take_add_one, List.sum_append]
  cases xs[k]? <;> simp
theorem sum_mono {xs ys : List Nat} (h : ∀ k : Nat, xs[k]?.getD 0 ≤ ys[k]?.getD 0) (i : Nat) : ∀ m, (xs.take (i + m)).sum + (ys.take i).sum ≤ (ys.take (i + m)).sum + (xs.take i).sum
  | 0 => by rw [Nat.add_zero, Nat.add_comm]; exact Nat.le_refl _
  | m + 1 => by
    have q := sum_mono h i m
    have e := h (i + m)
    rw [← Nat.add_assoc, sum_take_succ, sum_take_succ]
    omega
theorem sum_grow (xs : List Nat) (i : Nat) : ∀ m, (xs.take i).sum ≤ (xs.take (i + m)).sum
  | 0 => Nat.le_refl _
  | m + 1 => by
    have q := sum_grow xs i m
    rw [← Nat.add_assoc, sum_take_succ]
    omega
theorem S_mono {F G : Nat → Bool} (h : ∀ i, F i = true → G i = true) (ls : List Ln) {i j : Nat} (hij : i ≤ j) : S F ls j + S G ls i ≤ S G ls j + S F ls i ∧ S F ls i ≤ S F ls j := by
  obtain ⟨m, rfl⟩ := Nat.exists_eq_add_of_le hij
  exact ⟨sum_mono (szs_le h ls 0) i m, sum_grow _ i m⟩
theorem reach_mono {F G : Nat → Bool} (h : ∀ i, F i = true → G i = true) {ls : List Ln} {i g : Nat} (r : reach (dist G ls i g) = true) : reach (dist F ls i g) = true := by
  unfold reach dist at *
  rw [Bool.and_eq_true, decide_eq_true_eq, decide_eq_true_eq] at *
  rcases Nat.le_total i ((lastLab g ls).getD 0) with c | c
  · obtain ⟨a, b⟩ := S_mono h ls c
    omega
  · obtain ⟨a, b⟩ := S_mono h ls c
    obtain ⟨a', b'⟩ := S_mono (F := G) (G := G) (fun _ z => z) ls c
    omega
/-! ### branches, in their order -/
def brs (ls : List Ln) : List Nat := (List.range ls.length).filter fun i => isBr (ls.getD i .nop)
theorem mem_brs {ls : List Ln} {i : Nat} : i ∈ brs ls ↔ ∃ o g, ls[i]? = some (.br o g) := by
  unfold brs
  rw [List.mem_filter, List.mem_range]
  constructor
  · rintro ⟨h, b⟩
    have e : ls[i]? = some ls[i] := List.getElem?_eq_getElem h
    rw [List.getD_eq_getElem?_getD, e, Option.getD_some] at b
    cases q : ls[i] with
    | br o g => exact ⟨o, g, by rw [e, q]⟩
    | _ => rw [q] at b; cases b
  · rintro ⟨o, g, e⟩
    have h : i < ls.length := by
      by_cases c : i < ls.length
      · exact c
      · rw [List.getElem?_eq_none (by omega)] at e; cases e
    exact ⟨h, by rw [List.getD_eq_getElem?_getD, e]; rfl⟩
theorem brs_nodup (ls : List Ln) : (brs ls).Nodup := List.Pairwise.filter _ List.nodup_range
theorem brs_sorted (ls : List Ln) : (brs ls).Pairwise (· < ·) := List.Pairwise.filter _ List.pairwise_lt_range
/-- all that is known of what long_branches tells -/
structure Best (ls : List Ln) (F : Nat → Bool) : Prop where
  sub : ∀ i, F i = true → i ∈ brs ls
  fit : fitsB F ls
  least : ∀ G : Nat → Bool, fitsB G ls → ∀ i, F i = true → G i = true
/-! one look at all branches, at the places of F: what comes to be long -/
structure Look (ls : List Ln) (F F' : Nat → Bool) (t : Nat) : Prop where
  more : ∀ i, F i = true → F' i = true
  sub : ∀ i, F' i = true → i ∈ brs ls
  low : ∀ G : Nat → Bool, fitsB G ls → (∀ i, F i = true → G i = true) → ∀ i, F' i = true → G i = true
  done : (∀ i, F' i = true → F i = true) → ∀ k, k < t → ∀ i, (brs ls)[k]? = some i → ∀ o g, ls[i]? = some (.br o g) → F i = false → reach (dist F ls i g) = true
theorem Look.start {ls : List Ln} {F : Nat → Bool} (h : ∀ i, F i = true → i ∈ brs ls) : Look ls F F 0 := ⟨fun _ z => z, h, fun _ _ z => z, fun _ k hk => absurd hk (by omega)⟩
/-- a branch is left as it is -/
theorem Look.keep {ls : List Ln} {F F' : Nat → Bool} {t i o g : Nat} (L : Look ls F F' t) (hi : (brs ls)[t]? = some i) (hl : ls[i]? = some (.br o g)) (h : F' i = true ∨ reach (dist F ls i g) = true) : Look ls F F' (t + 1) :=
  ⟨L.more, L.sub, L.low, fun z k hk j hj o' g' e f => by
    by_cases c : k < t
    · exact L.done z k c j hj o' g' e f
    · have : k = t := by omega
      subst this
      rw [hi] at hj
      injection hj with hj
      subst hj
      rw [hl] at e
      injection e with e
      injection e with e1 e2
      subst e1 e2
      rcases h with h | h
      · rw [z i h] at f; cases f
      · exact h⟩
/-- a branch comes to be long -/
theorem Look.put {ls : List Ln} {F F' : Nat → Bool} {t i o g : Nat} (L : Look ls F F' t) (hi : (brs ls)[t]? = some i) (hl : ls[i]? = some (.br o g)) (hF : F' i = false) (h : reach (dist F ls i g) = false) : Look ls F (fun j => decide (j = i) || F' j) (t + 1) := by
  refine ⟨fun j z => by rw [Bool.or_eq_true]; exact Or.inr (L.more j z), fun j z => ?_, fun G q s j z => ?_, fun z => ?_⟩
  · rw [Bool.or_eq_true, decide_eq_true_eq] at z
    rcases z with rfl | z
    · exact mem_brs.mpr ⟨o, g, hl⟩
    · exact L.sub j z
  · rw [Bool.or_eq_true, decide_eq_true_eq] at z
    rcases z with rfl | z
    · cases e : G j with
      | true => rfl
      | false =>
        have := reach_mono s (q j o g hl e)
        rw [h] at this; cases this
    · exact L.low G q s j z
  · have a := z i (by simp)
    rw [L.more i a] at hF
    cases hF
theorem Look.best {ls : List Ln} {F F' : Nat → Bool} (L : Look ls F F' (brs ls).length) (hm : ∀ G : Nat → Bool, fitsB G ls → ∀ i, F i = true → G i = true) (z : ∀ i, F' i = true → F i = true) : Best ls F := by
  refine ⟨fun i h => L.sub i (L.more i h), fun i o g e f => ?_, hm⟩
  obtain ⟨k, hk, q⟩ := List.getElem_of_mem (mem_brs.mpr ⟨o, g, e⟩)
  exact L.done z k hk i (by rw [List.getElem?_eq_getElem hk, q]) o g e f
theorem Look.least {ls : List Ln} {F F' : Nat → Bool} {t : Nat} (L : Look ls F F' t) (hm : ∀ G : Nat → Bool, fitsB G ls → ∀ i, F i = true → G i = true) : ∀ G : Nat → Bool, fitsB G ls → ∀ i, F' i = true → G i = true := fun G q i z => L.low G q (hm G q) i z
end K70

namespace K70
open PySem PyProof.Rows L2 My
open Builtin (bitAnd bitOr)
/-! ### words of branches and jumps -/
theorem and_disj : ∀ (k : Nat) (a b : Int), a % 2 ^ k = 0 → 0 ≤ b → b < 2 ^ k → bitAnd a b = 0
  | 0, a, b, _, h0, h1 => by
    have : b = 0 := by
      have : (2 : Int) ^ 0 = 1 := by decide
      omega
    subst this
    exact bitAnd_zero a
  | k + 1, a, b, h, h0, h1 => by
    have e : (2 : Int) ^ (k + 1) = 2 * 2 ^ k := by rw [Int.pow_succ, Int.mul_comm]
    rw [e] at h h1
    have hp : (0 : Int) < 2 ^ k := Int.pow_pos (by decide)
    obtain ⟨q, hq⟩ : ∃ q, a = 2 * 2 ^ k * q := ⟨a / (2 * 2 ^ k), by have := Int.mul_ediv_add_emod a (2 * 2 ^ k); rw [h, Int.add_zero] at this; exact this.symm⟩
    have ha : a % 2 = 0 := by rw [hq, Int.mul_assoc]; exact Int.mul_emod_right _ _
    have ha2 : a / 2 = 2 ^ k * q := by rw [hq, Int.mul_assoc]; exact Int.mul_ediv_cancel_left _ (by decide)
    rw [PySem.W.kbt_halves a b, and_disj k (a / 2) (b / 2) (by rw [ha2]; exact Int.mul_emod_right _ _) (by omega) (by omega), if_neg (by omega)]
    rfl
theorem and_shift : ∀ (k : Nat) (x p : Int), bitAnd x (p * 2 ^ k) = bitAnd (x / 2 ^ k) p * 2 ^ k
  | 0, x, p => by
    have : (2 : Int) ^ 0 = 1 := by decide
    rw [this, Int.mul_one, Int.mul_one, Int.ediv_one]
  | k + 1, x, p => by
    have e : (2 : Int) ^ (k + 1) = 2 ^ k * 2 := Int.pow_succ ..
    have e2 : p * (2 ^ k * 2) = 2 * (p * 2 ^ k) := by rw [← Int.mul_assoc, Int.mul_comm]
    rw [e, e2, PySem.W.kbt_halves, Int.mul_ediv_cancel_left _ (by decide), and_shift k (x / 2) p, if_neg (by omega), Int.ediv_ediv_of_nonneg (by decide), Int.mul_comm 2 ((2 : Int) ^ k), Int.add_zero, Int.mul_comm 2, Int.mul_assoc]
/-- a field where there is nothing yet -/
theorem or_field (m k : Nat) {x p : Int} (h : (x / 2 ^ k) % 2 ^ m = 0) (h0 : 0 ≤ p) (h1 : p < 2 ^ m) : bitOr x (p * 2 ^ k) = x + p * 2 ^ k := by
  rw [bitOr_and, and_shift, and_disj m _ _ h h0 h1, Int.zero_mul, Int.sub_zero]
theorem or_fieldL (m k : Nat) {M D x p : Int} (hM : (2 : Int) ^ m = M) (hD : (2 : Int) ^ k = D) (h : (x / D) % M = 0) (h0 : 0 ≤ p) (h1 : p < M) : bitOr x (p * D) = x + p * D := by
  subst hM hD
  exact or_field m k h h0 h1
theorem p31 : (2 : Int) ^ 31 = 2147483648 := by decide
theorem p25 : (2 : Int) ^ 25 = 33554432 := by decide
theorem p21 : (2 : Int) ^ 21 = 2097152 := by decide
theorem p20 : (2 : Int) ^ 20 = 1048576 := by decide
theorem p15 : (2 : Int) ^ 15 = 32768 := by decide
theorem p12 : (2 : Int) ^ 12 = 4096 := by decide
theorem p11 : (2 : Int) ^ 11 = 2048 := by decide
theorem p10 : (2 : Int) ^ 10 = 1024 := by decide
theorem p8 : (2 : Int) ^ 8 = 256 := by decide
theorem p7 : (2 : Int) ^ 7 = 128 := by decide
theorem p6 : (2 : Int) ^ 6 = 64 := by decide
theorem p5 : (2 : Int) ^ 5 = 32 := by decide
theorem p4 : (2 : Int) ^ 4 = 16 := by decide
theorem p3 : (2 : Int) ^ 3 = 8 := by decide
theorem p1 : (2 : Int) ^ 1 = 2 := by decide
def opns : List Str := ["beq", "bne", "blt", "bge", "bltu", "bgeu"]
def opn (o : Nat) : Str := opns.getD o ""
def prt (o : Nat) : Int := ([0, 1, 4, 5, 6, 7] : List Int).getD o 0
def trn (o : Nat) : Nat := ([1, 0, 3, 2, 5, 4] : List Nat).getD o 0
theorem prt_ok : ∀ o, o < 6 → 0 ≤ prt o ∧ prt o < 8 := by decide
theorem trn_ok : ∀ o, o < 6 → trn o < 6 := by decide
def wB0 (d : Int) : Int := bitOr (bitOr (bitOr (bitOr (bitOr (bitAnd (d / 2 ^ 12) 1 * 2 ^ 31) (bitAnd (d / 2 ^ 5) 63 * 2 ^ 25)) (11 * 2 ^ 20)) (10 * 2 ^ 15)) (bitAnd (d / 2 ^ 1) 15 * 2 ^ 8)) (bitAnd (d / 2 ^ 11) 1 * 2 ^ 7)
def fin (x l p f : Int) : Int := bitOr (bitOr (bitOr x l) (p * 2 ^ 12)) (f * 2 ^ 25)
def wB (o : Nat) (d : Int) : Int := fin (wB0 d) 99 (prt o) 0
def wJ0 (d : Int) : Int := bitOr (bitOr (bitOr (bitOr (bitAnd (d / 2 ^ 20) 1 * 2 ^ 31) (bitAnd (d / 2 ^ 1) 1023 * 2 ^ 21)) (bitAnd (d / 2 ^ 11) 1 * 2 ^ 20)) (bitAnd (d / 2 ^ 12) 255 * 2 ^ 12)) (0 * 2 ^ 7)
def wJ (d : Int) : Int := fin (wJ0 d) 111 0 0
def sgn (n h : Int) : Int := if h ≤ n then n - 2 * h else n
def rB (w : Int) : Int := bitOr (bitOr (bitOr (w / 2 ^ 31 * 2 ^ 12) (bitAnd (w / 2 ^ 7) 1 * 2 ^ 11)) (bitAnd (w / 2 ^ 25) 63 * 2 ^ 5)) (bitAnd (w / 2 ^ 8) 15 * 2 ^ 1)
def rJ (w : Int) : Int := bitOr (bitOr (bitOr (w / 2 ^ 31 * 2 ^ 20) (bitAnd (w / 2 ^ 12) 255 * 2 ^ 12)) (bitAnd (w / 2 ^ 20) 1 * 2 ^ 11)) (bitAnd (w / 2 ^ 21) 1023 * 2 ^ 1)
theorem m1 (x : Int) : bitAnd x 1 = x % 2 := bitAnd_m1 x
theorem m4 (x : Int) : bitAnd x 15 = x % 16 := bitAnd_m4 x
theorem m6 (x : Int) : bitAnd x 63 = x % 64 := bitAnd_m6 x
theorem m8 (x : Int) : bitAnd x 255 = x % 256 := bitAnd_m8 x
theorem m10 (x : Int) : bitAnd x 1023 = x % 1024 := PySem.W.kbt_mask x 10
theorem or0 (x : Int) (k : Nat) : bitOr x (0 * 2 ^ k) = x := by rw [Int.zero_mul, bitOr_and, bitAnd_zero, Int.add_zero, Int.sub_zero]
theorem or_low (m : Nat) {x p : Int} (h : x % 2 ^ m = 0) (h0 : 0 ≤ p) (h1 : p < 2 ^ m) : bitOr x p = x + p := by
  have := or_field m 0 (x := x) (p := p) (by rw [show (2 : Int) ^ 0 = 1 from by decide, Int.ediv_one]; exact h) h0 h1
  rw [show (2 : Int) ^ 0 = 1 from by decide, Int.mul_one] at this
  exact this
theorem wB_eq {o : Nat} (ho : o < 6) (d : Int) : wB o d = (d / 4096 % 2) * 2147483648 + (d / 32 % 64) * 33554432 + 11534336 + 327680 + (d / 2 % 16) * 256 + (d / 2048 % 2) * 128 + 99 + prt o * 4096 := by
  have hp := prt_ok o ho
  unfold wB fin wB0
  rw [m1, m1, m4, m6, or0, p31, p25, p20, p15, p12, p11, p8, p7, p5, p1]
  have h12 : 0 ≤ d / 4096 % 2 ∧ d / 4096 % 2 < 2 := by omega
  have h5 : 0 ≤ d / 32 % 64 ∧ d / 32 % 64 < 64 := by omega
  have h1 : 0 ≤ d / 2 % 16 ∧ d / 2 % 16 < 16 := by omega
  have h11 : 0 ≤ d / 2048 % 2 ∧ d / 2048 % 2 < 2 := by omega
  generalize d / 4096 % 2 = f12 at *
  generalize d / 32 % 64 = f5 at *
  generalize d / 2 % 16 = f1 at *
  generalize d / 2048 % 2 = f11 at *
  generalize prt o = p at *
  rw [or_fieldL 6 25 p6 p25 (by omega) (by omega) (by omega), or_fieldL 5 20 p5 p20 (by omega) (by omega) (by omega), or_fieldL 5 15 p5 p15 (by omega) (by omega) (by omega), or_fieldL 4 8 p4 p8 (by omega) (by omega) (by omega), or_fieldL 1 7 p1 p7 (by omega) (by omega) (by omega)]
  rw [or_low 7 (p := 99) (by omega) (by omega) (by omega), or_fieldL 3 12 p3 p12 (by omega) (by omega) (by omega)]
  omega
theorem wJ_eq (d : Int) : wJ d = (d / 1048576 % 2) * 2147483648 + (d / 2 % 1024) * 2097152 + (d / 2048 % 2) * 1048576 + (d / 4096 % 256) * 4096 + 111 := by
  unfold wJ fin wJ0
  rw [m1, m1, m8, m10, or0, or0, or0, p31, p21, p20, p12, p11, p1]
  have h20 : 0 ≤ d / 1048576 % 2 ∧ d / 1048576 % 2 < 2 := by omega
  have h1 : 0 ≤ d / 2 % 1024 ∧ d / 2 % 1024 < 1024 := by omega
  have h11 : 0 ≤ d / 2048 % 2 ∧ d / 2048 % 2 < 2 := by omega
  have h12 : 0 ≤ d / 4096 % 256 ∧ d / 4096 % 256 < 256 := by omega
  generalize d / 1048576 % 2 = f20 at *
  generalize d / 2 % 1024 = f1 at *
  generalize d / 2048 % 2 = f11 at *
  generalize d / 4096 % 256 = f12 at *
  rw [or_fieldL 10 21 p10 p21 (by omega) (by omega) (by omega), or_fieldL 1 20 p1 p20 (by omega) (by omega) (by omega), or_fieldL 8 12 p8 p12 (by omega) (by omega) (by omega)]
  rw [or_low 7 (p := 111) (by omega) (by omega) (by omega)]
structure GoodB (o : Nat) (d : Int) : Prop where
  even : bitAnd d 1 = 0
  last : bitAnd (wB o d) 127 = 99
  part : bitAnd (wB o d / 2 ^ 12) 7 = prt o
  one : bitAnd (wB o d / 2 ^ 15) 31 = 10
  other : bitAnd (wB o d / 2 ^ 20) 31 = 11
  far : sgn (rB (wB o d)) 4096 = d
structure GoodJ (d : Int) : Prop where
  even : bitAnd d 1 = 0
  last : bitAnd (wJ d) 127 = 111
  one : bitAnd (wJ d / 2 ^ 7) 31 = 0
  far : sgn (rJ (wJ d)) 1048576 = d
structure FieldsB (w f12 f5 f1 f11 p : Int) : Prop where
  a : w % 128 = 99
  b : w / 4096 % 8 = p
  c : w / 32768 % 32 = 10
  d : w / 1048576 % 32 = 11
  e : w / 2147483648 = f12
  f : w / 128 % 2 = f11
  g : w / 33554432 % 64 = f5
  h : w / 256 % 16 = f1
theorem fieldsB {w f12 f5 f1 f11 p : Int} (h12 : 0 ≤ f12 ∧ f12 < 2) (h5 : 0 ≤ f5 ∧ f5 < 64) (h1 : 0 ≤ f1 ∧ f1 < 16) (h11 : 0 ≤ f11 ∧ f11 < 2) (hp : 0 ≤ p ∧ p < 8)
    (e : w = f12 * 2147483648 + f5 * 33554432 + 11534336 + 327680 + f1 * 256 + f11 * 128 + 99 + p * 4096) : FieldsB w f12 f5 f1 f11 p := by
  refine ⟨by omega, by omega, by omega, by omega, by omega, by omega, by omega, by omega⟩
theorem rB_eq {w f12 f5 f1 f11 : Int} (h12 : 0 ≤ f12 ∧ f12 < 2) (h5 : 0 ≤ f5 ∧ f5 < 64) (h1 : 0 ≤ f1 ∧ f1 < 16) (h11 : 0 ≤ f11 ∧ f11 < 2) (e : w / 2147483648 = f12) (f : w / 128 % 2 = f11) (g : w / 33554432 % 64 = f5) (h : w / 256 % 16 = f1) :
    rB w = f12 * 4096 + f11 * 2048 + f5 * 32 + f1 * 2 := by
  unfold rB
  rw [m1, m4, m6, show w / 2 ^ 31 = f12 from e, show w / 2 ^ 7 % 2 = f11 from f, show w / 2 ^ 25 % 64 = f5 from g, show w / 2 ^ 8 % 16 = f1 from h]
  clear e f g h
  rw [or_field 1 11 (by omega) (by omega) (by omega), or_field 6 5 (by omega) (by omega) (by omega), or_field 4 1 (by omega) (by omega) (by omega)]
  omega
theorem goodB {o : Nat} (ho : o < 6) {k : Int} (h1 : -1024 ≤ k) (h2 : k ≤ 1023) : GoodB o (4 * k) := by
  have e := wB_eq ho (4 * k)
  have F := fieldsB (by omega) (by omega) (by omega) (by omega) (prt_ok o ho) e
  have r := rB_eq (by omega) (by omega) (by omega) (by omega) F.e F.f F.g F.h
  refine ⟨by rw [m1]; omega, by rw [bitAnd_m7]; exact F.a, by rw [bitAnd_m3]; exact F.b, by rw [bitAnd_m5]; exact F.c, by rw [bitAnd_m5]; exact F.d, ?_⟩
  rw [r]
  clear e F r
  unfold sgn
  split <;> omega
structure FieldsJ (w f20 f1 f11 f12 : Int) : Prop where
  a : w % 128 = 111
  b : w / 128 % 32 = 0
  e : w / 2147483648 = f20
  f : w / 4096 % 256 = f12
  g : w / 1048576 % 2 = f11
  h : w / 2097152 % 1024 = f1
theorem fieldsJ {w f20 f1 f11 f12 : Int} (h20 : 0 ≤ f20 ∧ f20 < 2) (h1 : 0 ≤ f1 ∧ f1 < 1024) (h11 : 0 ≤ f11 ∧ f11 < 2) (h12 : 0 ≤ f12 ∧ f12 < 256)
    (e : w = f20 * 2147483648 + f1 * 2097152 + f11 * 1048576 + f12 * 4096 + 111) : FieldsJ w f20 f1 f11 f12 := by
  refine ⟨by omega, by omega, by omega, by omega, by omega, by omega⟩
theorem rJ_eq {w f20 f1 f11 f12 : Int} (h20 : 0 ≤ f20 ∧ f20 < 2) (h1 : 0 ≤ f1 ∧ f1 < 1024) (h11 : 0 ≤ f11 ∧ f11 < 2) (h12 : 0 ≤ f12 ∧ f12 < 256) (e : w / 2147483648 = f20) (f : w / 4096 % 256 = f12) (g : w / 1048576 % 2 = f11) (h : w / 2097152 % 1024 = f1) :
    rJ w = f20 * 1048576 + f12 * 4096 + f11 * 2048 + f1 * 2 := by
  unfold rJ
  rw [m1, m8, m10, show w / 2 ^ 31 = f20 from e, show w / 2 ^ 12 % 256 = f12 from f, show w / 2 ^ 20 % 2 = f11 from g, show w / 2 ^ 21 % 1024 = f1 from h]
  clear e f g h
  rw [or_field 8 12 (by omega) (by omega) (by omega), or_field 1 11 (by omega) (by omega) (by omega), or_field 10 1 (by omega) (by omega) (by omega)]
  omega
theorem goodJ {k : Int} (h1 : -100000 ≤ k) (h2 : k ≤ 100000) : GoodJ (4 * k) := by
  have e := wJ_eq (4 * k)
  have F := fieldsJ (by omega) (by omega) (by omega) (by omega) e
  have r := rJ_eq (by omega) (by omega) (by omega) (by omega) F.e F.f F.g F.h
  refine ⟨by rw [m1]; omega, by rw [bitAnd_m7]; exact F.a, by rw [bitAnd_m5]; exact F.b, ?_⟩
  rw [r]
  clear e F r
  unfold sgn
  split <;> omega
end K70

namespace Kg
open PySem PySem.Spec PyProof.Rows L2
/-- a comprehension goes to a name that inner blocks read: nothing is swapped -/
theorem sw_cell {elt : Expr} {gs : List Comprehension} {scope : Scope} {pos py : Pos} {y : Str} {l : Nat} {env : Env} (hy : env.scope.names.lookup y = some .cell) :
    swapsWith (.ListComp elt gs scope pos) (some (.Name y py)) l env = pure false := by
  have ky : env.kindOf y = some .cell := hy
  unfold swapsWith
  simp only [ky]
  cases h : (env.blockKind == ScopeKind.function) <;> rfl
/-- what e gives is a dict (a list) that from here on is only read -/
def tLockE (td : TE) : TE := fun σ H Q => td σ H fun x H1 => ∃ d u, x = .ref d ∧ H1 d = some u ∧ Mut (some u) ∧ ∀ o, Q x (upd H1 d (.frz o u))
theorem pe_locked {X : Cx} {e : Expr} {td : TE} (he : PE X e td) : PE X e (tLockE td) := by
  refine ⟨fun pins s σ H Q I hw => ?_⟩
  refine thn (he.run pins s σ H _ I hw) fun u s1 ⟨x, H1, I1, rx, d, v, ex, hd, mu, q⟩ => ?_
  obtain ⟨o, I2⟩ := I1.lock hd mu
  exact ⟨x, _, I2, rx, q o⟩
end Kg

namespace Ru
open PySem PySem.Spec PyProof.Rows L2 My
theorem if_true_of {c : Bool} {A B : Prop} (hc : c = true) (h : A) : if c = true then A else B := by
  rw [if_pos hc]
  exact h
theorem if_false_of {c : Bool} {A B : Prop} (hc : c = false) (h : B) : if c = true then A else B := by
  rw [hc, if_neg Bool.false_ne_true]
  exact h
theorem small_lists : (4000000 : Nat) < sizeLine := by rw [sizeLine_eq]; decide
theorem tup_le {n : Nat} (h : n ≤ 4000000) : n ≤ sizeLine := Nat.le_of_lt (Nat.lt_of_le_of_lt h small_lists)
theorem tup_lt {n : Nat} (h : n < 4000000) : n < sizeLine := Nat.lt_of_le_of_lt (Nat.le_of_lt h) small_lists
theorem ty_lst {K : PySem.W.Frag} {H : Hp} {p : Addr} {xs : List V} (h : H p = some (.lst xs)) : tyV K "list" (.ref p) H := .inl ⟨rfl, xs, SqL.of h⟩
theorem tru_lst {K : PySem.W.Frag} {H : Hp} {p : Addr} {xs : List V} (h : H p = some (.lst xs)) : TruV K (.ref p) H (!xs.isEmpty) := .inl ⟨xs, SqL.of h, rfl⟩
theorem pe_mkG0 {X : Cx} {CX : CXT} {k : Nat} {C : Addr} {x : Str} {ps : List Str} {sp : Sp} {E : XK} {p pos : Pos} (h : Gm X.prog X.w X.K X.mg X.base CX k C "__init__" ps sp) (M : PySem.W.makesIn X.K C = true ∧ PySem.W.keepIn X.K (.ref C) = true) (hm : X.mg x = some (.ref C)) (hr : Room (k + 1) X.A) (hx : Passes CX X E) (hg : Gl X x := by rfl)
    (hdb : (x == ("__debug__" : Str)) = false := by decide) : PE X (.Call (.Name x p) [] [] pos) (tMake C sp [] E tNil) := by
  obtain ⟨f, fd, m, F, b⟩ := h.ex
  exact pe_make0 ⟨M.1, m.at_, m.fn, M.2⟩ F hr hg hm b .nil hx hdb
/-- a local name holds one of these defs -/
def Held (P : Program) (w : World) (K : PySem.W.Frag) (mg : Str → Option Value) (base : Heap) (CX : CXT) (k : Nat) (f : Addr) (sp : Sp) : Prop :=
  ∃ (fd : FuncData) (ps : List Str), FnOk P w K mg base CX k f fd ps sp ∧ PySem.W.keepIn K (.ref f) = true ∧ Binds K fd ps []
theorem held_of {P : Program} {w : World} {K : PySem.W.Frag} {mg : Str → Option Value} {base : Heap} {CX : CXT} {j k : Nat} {x : Str} {ps : List Str} {sp : Sp} (h : Gd P w K mg base CX j x ps sp) (hjk : j ≤ k) {f : Addr} (hf : mg x = some (.ref f)) : Held P w K mg base CX k f sp := by
  obtain ⟨f', fd, m, F, b, kp, _⟩ := h.ex
  rw [m] at hf
  cases hf
  exact ⟨fd, ps, F.mono hjk, kp, b⟩
def tHeld (i : Nat) (Sf : Addr → Sp → Prop) (E : XK) (t : TA) : TE := fun σ H Q => ∃ f sp, σ[i]? = some (some (.ref f)) ∧ Sf f sp ∧ t σ H fun vs H1 => sp vs H1 Q E
theorem pe_callV {X : Cx} {CX : CXT} {k i : Nat} {E : XK} {x : Str} {p pos : Pos} {e : Expr} {es : List Expr} {t : TA} {Sf : Addr → Sp → Prop} (A : ∀ f sp, Sf f sp → Held X.prog X.w X.K X.mg X.base CX k f sp) (hr : Room k X.A) (hN : X.N[i]? = some x) (hv : Vis X.env.scope x) (hx : Passes CX X E) (ha : PA X (e :: es) t)
    (hdb : (x == ("__debug__" : Str)) = false := by decide) (hcd : (x == ("__classdict__" : Str)) = false := by decide)
    (he : starEach (e :: es) X.env = (false, eval e X.env) :: starEach es X.env := by rfl) (hpl : (backTo pos (starEach es X.env)).any (·.1) = false := by rfl) : PE X (.Call (.Name x p) (e :: es) [] pos) (tHeld i Sf E t) := by
  refine ⟨fun pins s σ H Q I hw => ?_⟩
  obtain ⟨f, sp, hs, hS, ht⟩ := hw
  obtain ⟨fd, ps, F, hk, hb⟩ := A f sp hS
  refine (pe_callL (i := i) (f := f) (sp := sp) (dvs := []) (E := E) F hr hN hv hk hb .nil hx ha hdb hcd he hpl).run pins s σ H Q I ⟨hs, ?_⟩
  have e0 : (fun (vs : List V) (H1 : Hp) => sp (vs ++ []) H1 Q E) = fun vs H1 => sp vs H1 Q E := by
    funext vs H1
    rw [List.append_nil]
  show t σ H (fun vs H1 => sp (vs ++ []) H1 Q E)
  rw [e0]
  exact ht
end Ru

namespace K70
open PySem PyProof.Rows L2 My Ru
def top (i : Nat) : Stmt := PySem.Challenge.pw_trueimage_k70_long_branches.main.body.getD i (.Pass ⟨0, 0, 0, 0⟩)
abbrev s_BadForm___init__ : Stmt := inClass (top 2) 0
abbrev s_is_number : Stmt := top 4
abbrev s_encode : Stmt := top 12
abbrev s__are_registers : Stmt := top 13
abbrev s__is_distance : Stmt := top 14
abbrev s__write_three : Stmt := top 15
abbrev s__write_number : Stmt := top 16
abbrev s__write_store : Stmt := top 17
abbrev s__write_branch : Stmt := top 18
abbrev s__write_upper : Stmt := top 19
abbrev s__write_jump : Stmt := top 20
abbrev s__write_whole : Stmt := top 21
abbrev s_decode : Stmt := top 22
abbrev s__with_sign : Stmt := top 23
abbrev s__read_three : Stmt := top 24
abbrev s__read_number : Stmt := top 25
abbrev s__read_store : Stmt := top 26
abbrev s__read_branch : Stmt := top 27
abbrev s__read_upper : Stmt := top 28
abbrev s__read_jump : Stmt := top 29
abbrev s__read_whole : Stmt := top 30
abbrev s_Assembled___init__ : Stmt := inClass (top 38) 0
abbrev s_Assembled___eq__ : Stmt := inClass (top 38) 1
abbrev s_Assembled_word : Stmt := inClass (top 38) 2
abbrev s_long_branches : Stmt := top 39
abbrev s__sizes_of : Stmt := top 40
abbrev s__starts_of : Stmt := top 41
abbrev s_assembled : Stmt := top 42
abbrev s__add_word : Stmt := top 43
abbrev s__add_branch : Stmt := top 44
abbrev s__law_cell_at : Stmt := top 46
abbrev s__law_draw : Stmt := top 47
abbrev s__law_number : Stmt := top 48
abbrev s__law_next : Stmt := top 49
abbrev s__law_pick : Stmt := top 50
abbrev s__law_lines : Stmt := top 51
abbrev s__law_size : Stmt := top 52
abbrev s__law_fits : Stmt := top 53
abbrev s_law : Stmt := top 54
def Ent (K : PySem.W.Frag) (d x : Str) (vs : List V) : Prop := ∃ a, PySem.W.nsIn K (He.ga K d) x = some (some (.ref a)) ∧ ∀ H : Hp, SqT K H a vs
structure Txt (K : PySem.W.Frag) (mg : Str → Option Value) (w : World) : Prop where
  d_is_number : Df K mg "is_number" s_is_number
  c_FORMS : mg "FORMS" = some (.ref (He.ga K "FORMS"))
  k_FORMS : ∃ es n, KDict K w (He.ga K "FORMS") es n
  c_BY_LAST_BITS : mg "BY_LAST_BITS" = some (.ref (He.ga K "BY_LAST_BITS"))
  c_MOST_REGISTER : ∃ t, mg "MOST_REGISTER" = some (.int (31) t)
  c_HALF_NUMBER : ∃ t, mg "HALF_NUMBER" = some (.int (2048) t)
  c_HALF_BRANCH : ∃ t, mg "HALF_BRANCH" = some (.int (4096) t)
  c_HALF_JUMP : ∃ t, mg "HALF_JUMP" = some (.int (1048576) t)
  d_encode : Df K mg "encode" s_encode
  d__are_registers : Df K mg "_are_registers" s__are_registers
  d__is_distance : Df K mg "_is_distance" s__is_distance
  d__write_three : Df K mg "_write_three" s__write_three
  d__write_number : Df K mg "_write_number" s__write_number
  d__write_store : Df K mg "_write_store" s__write_store
  d__write_branch : Df K mg "_write_branch" s__write_branch
  d__write_upper : Df K mg "_write_upper" s__write_upper
  d__write_jump : Df K mg "_write_jump" s__write_jump
  d__write_whole : Df K mg "_write_whole" s__write_whole
  d_decode : Df K mg "decode" s_decode
  d__with_sign : Df K mg "_with_sign" s__with_sign
  d__read_three : Df K mg "_read_three" s__read_three
  d__read_number : Df K mg "_read_number" s__read_number
  d__read_store : Df K mg "_read_store" s__read_store
  d__read_branch : Df K mg "_read_branch" s__read_branch
  d__read_upper : Df K mg "_read_upper" s__read_upper
  d__read_jump : Df K mg "_read_jump" s__read_jump
  d__read_whole : Df K mg "_read_whole" s__read_whole
  c_WRITERS : mg "WRITERS" = some (.ref (He.ga K "WRITERS"))
  k_WRITERS : ∃ es n, KDict K w (He.ga K "WRITERS") es n
  c_READERS : mg "READERS" = some (.ref (He.ga K "READERS"))
  k_READERS : ∃ es n, KDict K w (He.ga K "READERS") es n
  c_TURNED : mg "TURNED" = some (.ref (He.ga K "TURNED"))
  k_TURNED : ∃ es n, KDict K w (He.ga K "TURNED") es n
  c_LEAST_REACH : ∃ t, mg "LEAST_REACH" = some (.int (-1024) t)
  c_MOST_REACH : ∃ t, mg "MOST_REACH" = some (.int (1023) t)
  c_BYTES : ∃ t, mg "BYTES" = some (.int (4) t)
  d_Assembled___init__ : Dm K (He.ga K "Assembled") "__init__" "Assembled.__init__" s_Assembled___init__
  d_Assembled___eq__ : Dm K (He.ga K "Assembled") "__eq__" "Assembled.__eq__" s_Assembled___eq__
  d_Assembled_word : Dm K (He.ga K "Assembled") "word" "Assembled.word" s_Assembled_word
  d_long_branches : Df K mg "long_branches" s_long_branches
  d__sizes_of : Df K mg "_sizes_of" s__sizes_of
  d__starts_of : Df K mg "_starts_of" s__starts_of
  d_assembled : Df K mg "assembled" s_assembled
  d__add_word : Df K mg "_add_word" s__add_word
  d__add_branch : Df K mg "_add_branch" s__add_branch
  d__law_cell_at : Df K mg "_law_cell_at" s__law_cell_at
  d__law_draw : Df K mg "_law_draw" s__law_draw
  d__law_number : Df K mg "_law_number" s__law_number
  d__law_next : Df K mg "_law_next" s__law_next
  d__law_pick : Df K mg "_law_pick" s__law_pick
  d__law_lines : Df K mg "_law_lines" s__law_lines
  d__law_size : Df K mg "_law_size" s__law_size
  d__law_fits : Df K mg "_law_fits" s__law_fits
  d_law : Df K mg "law" s_law
  cl_Assembled : Cl K mg "Assembled" (He.ga K "Assembled")
  mk_Assembled : PySem.W.makesIn K (He.ga K "Assembled") = true ∧ PySem.W.keepIn K (.ref (He.ga K "Assembled")) = true
  na_Assembled_words : NoAttr K (He.ga K "Assembled") "words"
  na_Assembled_places : NoAttr K (He.ga K "Assembled") "places"
  na_Assembled_patches : NoAttr K (He.ga K "Assembled") "patches"
  na_Assembled_traps : NoAttr K (He.ga K "Assembled") "traps"
  na_Assembled_labels : NoAttr K (He.ga K "Assembled") "labels"
  n_len : mg "len" = none
  n_tuple : mg "tuple" = none
  n_isinstance : mg "isinstance" = none
  n_str : mg "str" = none
  n_int : mg "int" = none
  n_bool : mg "bool" = none
  n_all : mg "all" = none
  n_enumerate : mg "enumerate" = none
  n_range : mg "range" = none
  n_zip : mg "zip" = none
  n_reversed : mg "reversed" = none
  n_list : mg "list" = none
  n_sorted : mg "sorted" = none
  ga__write_number : mg "_write_number" = some (.ref (He.ga K "_write_number"))
  ga__write_branch : mg "_write_branch" = some (.ref (He.ga K "_write_branch"))
  ga__write_jump : mg "_write_jump" = some (.ref (He.ga K "_write_jump"))
  ga__write_whole : mg "_write_whole" = some (.ref (He.ga K "_write_whole"))
  ga__read_branch : mg "_read_branch" = some (.ref (He.ga K "_read_branch"))
  ga__read_jump : mg "_read_jump" = some (.ref (He.ga K "_read_jump"))
  f_br : ∀ o, o < 6 → Ent K "FORMS" (opn o) [.str "branch", .int 99, .int (prt o), .int 0]
  f_addi : Ent K "FORMS" "addi" [.str "number", .int 19, .int 0, .int 0]
  f_jal : Ent K "FORMS" "jal" [.str "jump", .int 111, .int 0, .int 0]
  f_ebreak : Ent K "FORMS" "ebreak" [.str "whole", .int 115, .int 1048691, .int 0]
  k_BY : ∃ es n, Kg.KInt K (He.ga K "BY_LAST_BITS") es n ∧ (∃ a, findBy Value.isInt es 99 = some (.ref a) ∧ ∀ H : Hp, SqT K H a (opns.map V.str)) ∧ ∃ a, findBy Value.isInt es 111 = some (.ref a) ∧ ∀ H : Hp, SqT K H a [.str "jal"]
  w_number : KDct K w (He.ga K "WRITERS") "number" (.ref (He.ga K "_write_number"))
  w_branch : KDct K w (He.ga K "WRITERS") "branch" (.ref (He.ga K "_write_branch"))
  w_jump : KDct K w (He.ga K "WRITERS") "jump" (.ref (He.ga K "_write_jump"))
  w_whole : KDct K w (He.ga K "WRITERS") "whole" (.ref (He.ga K "_write_whole"))
  r_branch : KDct K w (He.ga K "READERS") "branch" (.ref (He.ga K "_read_branch"))
  r_jump : KDct K w (He.ga K "READERS") "jump" (.ref (He.ga K "_read_jump"))
  t_TURNED : ∀ o, o < 6 → KDct K w (He.ga K "TURNED") (opn o) (.str (opn (trn o)))
open Builtin (bitAnd bitOr)
abbrev CA (K : PySem.W.Frag) : Addr := He.ga K "Assembled"
/-- a line at a -/
def LnAt (H : Hp) (a : Addr) : Ln → Prop
  | .lab n => H a = some (.tup [.str "label", .int (n : Int)])
  | .br o g => o < 6 ∧ ∃ p, H a = some (.tup [.str "branch", .str (opn o), .int 10, .int 11, .int (g : Int), .ref p])
  | .nop => ∃ t p, H a = some (.tup [.str "word", .ref t, .ref p, .non, .non]) ∧ H t = some (.tup [.str "addi", .int 0, .int 0, .int 0])
  | .stop => ∃ t p, H a = some (.tup [.str "word", .ref t, .ref p, .non, .str "told"]) ∧ H t = some (.tup [.str "ebreak", .int 0, .int 0, .int 0])
  | .jmp g => ∃ p, H a = some (.tup [.str "jump", .int (g : Int), .ref p])
/-- its first piece -/
def kindS : Ln → Str
  | .lab _ => "label"
  | .br _ _ => "branch"
  | .nop => "word"
  | .stop => "word"
  | .jmp _ => "jump"
def Lns (H : Hp) : List Addr → List Ln → Prop
  | [], [] => True
  | a :: as, l :: ls => LnAt H a l ∧ Lns H as ls
  | _, _ => False
theorem Lns.len {H : Hp} : ∀ {as : List Addr} {ls : List Ln}, Lns H as ls → as.length = ls.length
  | [], [], _ => rfl
  | _ :: as, _ :: ls, h => by rw [List.length_cons, List.length_cons, Lns.len h.2]
  | [], _ :: _, h => h.elim
  | _ :: _, [], h => h.elim
theorem Lns.get {H : Hp} : ∀ {as : List Addr} {ls : List Ln}, Lns H as ls → ∀ (i : Nat) (l : Ln), ls[i]? = some l → ∃ a, as[i]? = some a ∧ LnAt H a l
  | [], [], _, i, l, e => by simp at e
  | a :: as, l' :: ls, h, 0, l, e => by
    injection e with e
    subst e
    exact ⟨a, rfl, h.1⟩
  | a :: as, l' :: ls, h, i + 1, l, e => Lns.get h.2 i l e
  | [], _ :: _, h, _, _, _ => h.elim
  | _ :: _, [], h, _, _, _ => h.elim
theorem Lns.app {H : Hp} : ∀ {as : List Addr} {ls : List Ln} {bs : List Addr} {ms : List Ln}, Lns H as ls → Lns H bs ms → Lns H (as ++ bs) (ls ++ ms)
  | [], [], _, _, _, h => h
  | _ :: _, _ :: _, _, _, h, k => ⟨h.1, Lns.app h.2 k⟩
  | [], _ :: _, _, _, h, _ => h.elim
  | _ :: _, [], _, _, h, _ => h.elim
def ButL (as : List Addr) (H H' : Hp) : Prop := ∀ b o, H b = some o → ¬ b ∈ as → H' b = some o
theorem ButL.refl {as : List Addr} {H : Hp} : ButL as H H := fun _ _ e _ => e
theorem ButL.trans {as : List Addr} {H H1 H2 : Hp} (a : ButL as H H1) (b : ButL as H1 H2) : ButL as H H2 := fun x o e h => b x o (a x o e h) h
theorem ButL.same {as : List Addr} {H H1 : Hp} (a : Same H H1) : ButL as H H1 := fun x o e _ => a x o e
theorem ButL.put {as : List Addr} {H : Hp} {a : Addr} {o : HO} (h : a ∈ as) : ButL as H (upd H a o) := fun x u e n => by
  rw [upd_ne (fun z => n (by rw [z]; exact h))]; exact e
theorem same_new {H : Hp} {a : Addr} {o : HO} (h : H a = none) : Same H (upd H a o) := fun x u e => by
  rw [upd_ne (ne_of_none e h)]; exact e
theorem Same.tr {H H1 H2 : Hp} (a : Same H H1) (b : Same H1 H2) : Same H H2 := fun x o e => b x o (a x o e)
theorem Same.rf {H : Hp} : Same H H := fun _ _ e => e
/-- what is written in these is no tuple -/
def NoTup (as : List Addr) (H : Hp) : Prop := ∀ a, a ∈ as → ∀ xs, H a ≠ some (.tup xs)
theorem ButL.tup {as : List Addr} {H H' : Hp} (h : ButL as H H') (m : NoTup as H) {p : Addr} {xs : List V} (e : H p = some (.tup xs)) : H' p = some (.tup xs) := h p _ e fun z => m p z xs e
theorem LnAt.keep {as : List Addr} {H H' : Hp} (h : ButL as H H') (m : NoTup as H) {a : Addr} {l : Ln} (x : LnAt H a l) : LnAt H' a l := by
  cases l with
  | lab n => exact h.tup m x
  | br o g => obtain ⟨q, p, e⟩ := x; exact ⟨q, p, h.tup m e⟩
  | nop => obtain ⟨t, p, e, f⟩ := x; exact ⟨t, p, h.tup m e, h.tup m f⟩
  | stop => obtain ⟨t, p, e, f⟩ := x; exact ⟨t, p, h.tup m e, h.tup m f⟩
  | jmp g => obtain ⟨p, e⟩ := x; exact ⟨p, h.tup m e⟩
theorem Lns.keep {as : List Addr} {H H' : Hp} (h : ButL as H H') (m : NoTup as H) : ∀ {bs : List Addr} {ls : List Ln}, Lns H bs ls → Lns H' bs ls
  | [], [], _ => trivial
  | _ :: _, _ :: _, x => ⟨LnAt.keep h m x.1, Lns.keep h m x.2⟩
  | [], _ :: _, x => x.elim
  | _ :: _, [], x => x.elim
theorem LnAt.first {H : Hp} {a : Addr} {l : Ln} (h : LnAt H a l) : ∃ xs, H a = some (.tup (.str (kindS l) :: xs)) := by
  cases l with
  | lab n => exact ⟨_, h⟩
  | br o g => obtain ⟨_, p, e⟩ := h; exact ⟨_, e⟩
  | nop => obtain ⟨t, p, e, _⟩ := h; exact ⟨_, e⟩
  | stop => obtain ⟨t, p, e, _⟩ := h; exact ⟨_, e⟩
  | jmp g => obtain ⟨p, e⟩ := h; exact ⟨_, e⟩
/-- a list of lines at l -/
def Lines (H : Hp) (l : Addr) (ls : List Ln) : Prop := ∃ as, H l = some (.lst (as.map V.ref)) ∧ Lns H as ls ∧ ls.length ≤ 6000
theorem Lines.keep {as : List Addr} {H H' : Hp} (h : ButL as H H') (m : NoTup as H) {l : Addr} {ls : List Ln} (hl : ¬ l ∈ as) (x : Lines H l ls) : Lines H' l ls := by
  obtain ⟨bs, e, f, g⟩ := x
  exact ⟨bs, h _ _ e hl, Lns.keep h m f, g⟩
theorem Lines.same {H H' : Hp} (h : Same H H') {l : Addr} {ls : List Ln} (x : Lines H l ls) : Lines H' l ls := x.keep (as := []) (ButL.same h) (fun a z => by cases z) (by simp)
/-! instructions -/
inductive Ins where
  | addi | ebreak | br (o : Nat) (k : Int) | jal (k : Int)
def insV : Ins → List V
  | .addi => [.str "addi", .int 0, .int 0, .int 0]
  | .ebreak => [.str "ebreak", .int 0, .int 0, .int 0]
  | .br o k => [.str (opn o), .int 10, .int 11, .int (4 * k)]
  | .jal k => [.str "jal", .int 0, .int (4 * k), .int 0]
def insW : Ins → Int
  | .addi => 19
  | .ebreak => 1048691
  | .br o k => wB o (4 * k)
  | .jal k => wJ (4 * k)
def insOk : Ins → Prop
  | .addi => True
  | .ebreak => True
  | .br o k => o < 6 ∧ -1024 ≤ k ∧ k ≤ 1023
  | .jal k => -100000 ≤ k ∧ k ≤ 100000
/-! promises -/
def sp_is_number (K : PySem.W.Frag) : Sp := sp3 fun x y z H Q _ => ∃ n a b : Int, x = .int n ∧ y = .int a ∧ z = .int b ∧ Q (.bl (decide (a ≤ n) && decide (n ≤ b))) H
def sp__are_registers (K : PySem.W.Frag) : Sp := sp3 fun x y z H Q _ => ∃ a b c : Int, x = .int a ∧ y = .int b ∧ z = .int c ∧ (0 ≤ a ∧ a ≤ 31) ∧ (0 ≤ b ∧ b ≤ 31) ∧ (0 ≤ c ∧ c ≤ 31) ∧ ∀ H', Same H H' → Q (.bl true) H'
def sp__is_distance (K : PySem.W.Frag) : Sp := sp2 fun x y H Q _ => ∃ d h : Int, x = .int d ∧ y = .int h ∧ -h ≤ d ∧ d ≤ h - 1 ∧ bitAnd d 1 = 0 ∧ Q (.bl true) H
def sp__write_number (K : PySem.W.Frag) : Sp := sp3 fun x y z H Q _ => x = .int 0 ∧ y = .int 0 ∧ z = .int 0 ∧ ∀ H', Same H H' → Q (.int 0) H'
def sp__write_branch (K : PySem.W.Frag) : Sp := sp3 fun x y z H Q _ => ∃ k : Int, x = .int 10 ∧ y = .int 11 ∧ z = .int (4 * k) ∧ -1024 ≤ k ∧ k ≤ 1023 ∧ ∀ H', Same H H' → Q (.int (wB0 (4 * k))) H'
def sp__write_jump (K : PySem.W.Frag) : Sp := sp3 fun x y z H Q _ => ∃ k : Int, x = .int 0 ∧ y = .int (4 * k) ∧ z = .int 0 ∧ -100000 ≤ k ∧ k ≤ 100000 ∧ ∀ H', Same H H' → Q (.int (wJ0 (4 * k))) H'
def sp__write_whole (K : PySem.W.Frag) : Sp := sp3 fun x y z H Q _ => x = .int 0 ∧ y = .int 0 ∧ z = .int 0 ∧ Q (.int 0) H
def sp_encode (K : PySem.W.Frag) : Sp := sp1 fun x H Q _ => ∃ (p : Addr) (i : Ins), x = .ref p ∧ H p = some (.tup (insV i)) ∧ insOk i ∧ ∀ H', Same H H' → Q (.int (insW i)) H'
def sp__with_sign (K : PySem.W.Frag) : Sp := sp2 fun x y H Q _ => ∃ n h : Int, x = .int n ∧ y = .int h ∧ Q (.int (sgn n h)) H
def sp__read_branch (K : PySem.W.Frag) : Sp := sp1 fun x H Q _ => ∃ w : Int, x = .int w ∧ 0 ≤ w ∧ w < 4294967296 ∧ ∀ p, H p = none → Q (.ref p) (upd H p (.tup [.int (bitAnd (w / 2 ^ 15) 31), .int (bitAnd (w / 2 ^ 20) 31), .int (sgn (rB w) 4096)]))
def sp__read_jump (K : PySem.W.Frag) : Sp := sp1 fun x H Q _ => ∃ w : Int, x = .int w ∧ 0 ≤ w ∧ w < 4294967296 ∧ ∀ p, H p = none → Q (.ref p) (upd H p (.tup [.int (bitAnd (w / 2 ^ 7) 31), .int (sgn (rJ w) 1048576), .int 0]))
def isTurn : Ins → Prop
  | .br _ _ => True
  | .jal _ => True
  | _ => False
def sp_decode (K : PySem.W.Frag) : Sp := sp1 fun x H Q _ => ∃ i : Ins, x = .int (insW i) ∧ insOk i ∧ isTurn i ∧ ∀ (H' : Hp) (t : Addr), Same H H' → H' t = some (.tup (insV i)) → Q (.ref t) H'

end K70

namespace K70E
open PySem PySem.Spec PyProof.Rows L2 My Ru K70
def dd_is_number : He.DefD := ⟨("is_number", none), "is_number", "is_number", defArgs s_is_number, defBody s_is_number, defScope s_is_number, [], []⟩
def dd_encode : He.DefD := ⟨("encode", none), "encode", "encode", defArgs s_encode, defBody s_encode, defScope s_encode, [], []⟩
def dd__are_registers : He.DefD := ⟨("_are_registers", none), "_are_registers", "_are_registers", defArgs s__are_registers, defBody s__are_registers, defScope s__are_registers, [], []⟩
def dd__is_distance : He.DefD := ⟨("_is_distance", none), "_is_distance", "_is_distance", defArgs s__is_distance, defBody s__is_distance, defScope s__is_distance, [], []⟩
def dd__write_three : He.DefD := ⟨("_write_three", none), "_write_three", "_write_three", defArgs s__write_three, defBody s__write_three, defScope s__write_three, [], []⟩
def dd__write_number : He.DefD := ⟨("_write_number", none), "_write_number", "_write_number", defArgs s__write_number, defBody s__write_number, defScope s__write_number, [], []⟩
def dd__write_store : He.DefD := ⟨("_write_store", none), "_write_store", "_write_store", defArgs s__write_store, defBody s__write_store, defScope s__write_store, [], []⟩
def dd__write_branch : He.DefD := ⟨("_write_branch", none), "_write_branch", "_write_branch", defArgs s__write_branch, defBody s__write_branch, defScope s__write_branch, [], []⟩
def dd__write_upper : He.DefD := ⟨("_write_upper", none), "_write_upper", "_write_upper", defArgs s__write_upper, defBody s__write_upper, defScope s__write_upper, [], []⟩
def dd__write_jump : He.DefD := ⟨("_write_jump", none), "_write_jump", "_write_jump", defArgs s__write_jump, defBody s__write_jump, defScope s__write_jump, [], []⟩
def dd__write_whole : He.DefD := ⟨("_write_whole", none), "_write_whole", "_write_whole", defArgs s__write_whole, defBody s__write_whole, defScope s__write_whole, [], []⟩
def dd_decode : He.DefD := ⟨("decode", none), "decode", "decode", defArgs s_decode, defBody s_decode, defScope s_decode, [], []⟩
def dd__with_sign : He.DefD := ⟨("_with_sign", none), "_with_sign", "_with_sign", defArgs s__with_sign, defBody s__with_sign, defScope s__with_sign, [], []⟩
def dd__read_three : He.DefD := ⟨("_read_three", none), "_read_three", "_read_three", defArgs s__read_three, defBody s__read_three, defScope s__read_three, [], []⟩
def dd__read_number : He.DefD := ⟨("_read_number", none), "_read_number", "_read_number", defArgs s__read_number, defBody s__read_number, defScope s__read_number, [], []⟩
def dd__read_store : He.DefD := ⟨("_read_store", none), "_read_store", "_read_store", defArgs s__read_store, defBody s__read_store, defScope s__read_store, [], []⟩
def dd__read_branch : He.DefD := ⟨("_read_branch", none), "_read_branch", "_read_branch", defArgs s__read_branch, defBody s__read_branch, defScope s__read_branch, [], []⟩
def dd__read_upper : He.DefD := ⟨("_read_upper", none), "_read_upper", "_read_upper", defArgs s__read_upper, defBody s__read_upper, defScope s__read_upper, [], []⟩
def dd__read_jump : He.DefD := ⟨("_read_jump", none), "_read_jump", "_read_jump", defArgs s__read_jump, defBody s__read_jump, defScope s__read_jump, [], []⟩
def dd__read_whole : He.DefD := ⟨("_read_whole", none), "_read_whole", "_read_whole", defArgs s__read_whole, defBody s__read_whole, defScope s__read_whole, [], []⟩
def dd_long_branches : He.DefD := ⟨("long_branches", none), "long_branches", "long_branches", defArgs s_long_branches, defBody s_long_branches, defScope s_long_branches, [], []⟩
def dd__sizes_of : He.DefD := ⟨("_sizes_of", none), "_sizes_of", "_sizes_of", defArgs s__sizes_of, defBody s__sizes_of, defScope s__sizes_of, [], []⟩
def dd__starts_of : He.DefD := ⟨("_starts_of", none), "_starts_of", "_starts_of", defArgs s__starts_of, defBody s__starts_of, defScope s__starts_of, [], []⟩
def dd_assembled : He.DefD := ⟨("assembled", none), "assembled", "assembled", defArgs s_assembled, defBody s_assembled, defScope s_assembled, [], []⟩
def dd__add_word : He.DefD := ⟨("_add_word", none), "_add_word", "_add_word", defArgs s__add_word, defBody s__add_word, defScope s__add_word, [], []⟩
def dd__add_branch : He.DefD := ⟨("_add_branch", none), "_add_branch", "_add_branch", defArgs s__add_branch, defBody s__add_branch, defScope s__add_branch, [], []⟩
def dd__law_cell_at : He.DefD := ⟨("_law_cell_at", none), "_law_cell_at", "_law_cell_at", defArgs s__law_cell_at, defBody s__law_cell_at, defScope s__law_cell_at, [], []⟩
def dd__law_draw : He.DefD := ⟨("_law_draw", none), "_law_draw", "_law_draw", defArgs s__law_draw, defBody s__law_draw, defScope s__law_draw, [], []⟩
def dd__law_number : He.DefD := ⟨("_law_number", none), "_law_number", "_law_number", defArgs s__law_number, defBody s__law_number, defScope s__law_number, [], []⟩
def dd__law_next : He.DefD := ⟨("_law_next", none), "_law_next", "_law_next", defArgs s__law_next, defBody s__law_next, defScope s__law_next, [], []⟩
def dd__law_pick : He.DefD := ⟨("_law_pick", none), "_law_pick", "_law_pick", defArgs s__law_pick, defBody s__law_pick, defScope s__law_pick, [], []⟩
def dd__law_lines : He.DefD := ⟨("_law_lines", none), "_law_lines", "_law_lines", defArgs s__law_lines, defBody s__law_lines, defScope s__law_lines, [], []⟩
def dd__law_size : He.DefD := ⟨("_law_size", none), "_law_size", "_law_size", defArgs s__law_size, defBody s__law_size, defScope s__law_size, [], []⟩
def dd__law_fits : He.DefD := ⟨("_law_fits", none), "_law_fits", "_law_fits", defArgs s__law_fits, defBody s__law_fits, defScope s__law_fits, [], []⟩
def dd_law : He.DefD := ⟨("law", none), "law", "law", defArgs s_law, defBody s_law, defScope s_law, [], []⟩
def dd_Assembled___init__ : He.DefD := ⟨("Assembled", some "__init__"), "__init__", "Assembled.__init__", defArgs s_Assembled___init__, defBody s_Assembled___init__, defScope s_Assembled___init__, [], []⟩
def dd_Assembled___eq__ : He.DefD := ⟨("Assembled", some "__eq__"), "__eq__", "Assembled.__eq__", defArgs s_Assembled___eq__, defBody s_Assembled___eq__, defScope s_Assembled___eq__, [], []⟩
def dd_Assembled_word : He.DefD := ⟨("Assembled", some "word"), "word", "Assembled.word", defArgs s_Assembled_word, defBody s_Assembled_word, defScope s_Assembled_word, [], []⟩
def hfn : List He.DefD := ([dd_is_number, dd_encode, dd__are_registers, dd__is_distance, dd__write_three, dd__write_number, dd__write_store, dd__write_branch, dd__write_upper, dd__write_jump, dd__write_whole, dd_decode, dd__with_sign, dd__read_three, dd__read_number, dd__read_store, dd__read_branch, dd__read_upper, dd__read_jump, dd__read_whole] : List He.DefD) ++ ([dd_long_branches, dd__sizes_of, dd__starts_of, dd_assembled, dd__add_word, dd__add_branch, dd__law_cell_at, dd__law_draw, dd__law_number, dd__law_next, dd__law_pick, dd__law_lines, dd__law_size, dd__law_fits, dd_law, dd_Assembled___init__, dd_Assembled___eq__, dd_Assembled_word] : List He.DefD)
def hfa : List He.Fa := ([.glo "is_number", .glo "encode", .glo "_are_registers", .glo "_is_distance", .glo "_write_three", .glo "_write_number", .glo "_write_store", .glo "_write_branch", .glo "_write_upper", .glo "_write_jump", .glo "_write_whole", .glo "decode", .glo "_with_sign", .glo "_read_three", .glo "_read_number", .glo "_read_store", .glo "_read_branch", .glo "_read_upper", .glo "_read_jump", .glo "_read_whole"] : List He.Fa) ++ ([.glo "long_branches", .glo "_sizes_of", .glo "_starts_of", .glo "assembled", .glo "_add_word", .glo "_add_branch", .glo "_law_cell_at", .glo "_law_draw", .glo "_law_number", .glo "_law_next", .glo "_law_pick", .glo "_law_lines", .glo "_law_size", .glo "_law_fits", .glo "law", .glo "FORMS", .glo "BY_LAST_BITS", .glo "WRITERS", .glo "READERS", .glo "TURNED"] : List He.Fa) ++ ([.glo "Assembled", .free "len", .free "tuple", .free "isinstance", .free "str", .free "int", .free "bool", .free "all", .free "enumerate", .free "range", .free "zip", .free "reversed", .free "list", .free "sorted", .int "MOST_REGISTER" (31), .int "HALF_NUMBER" (2048), .int "HALF_BRANCH" (4096), .int "HALF_JUMP" (1048576), .int "LEAST_REACH" (-1024), .int "MOST_REACH" (1023)] : List He.Fa) ++ ([.int "BYTES" (4), .cls "Assembled", .mkr "Assembled", .noat "Assembled" "words", .noat "Assembled" "places", .noat "Assembled" "patches", .noat "Assembled" "traps", .noat "Assembled" "labels", .meth "Assembled" "__init__", .meth "Assembled" "__eq__", .meth "Assembled" "word"] : List He.Fa)
def hts : List He.Tab := [(fun K => He.ga K "FORMS", ((["add", "sub", "sll", "slt", "sltu", "xor", "srl", "sra", "or", "and", "mul", "mulh", "mulhsu", "mulhu", "div", "divu", "rem", "remu", "addi", "slti"] : List Str) ++ (["sltiu", "xori", "ori", "andi", "slli", "srli", "srai", "lb", "lh", "lw", "lbu", "lhu", "jalr", "sb", "sh", "sw", "beq", "bne", "blt", "bge"] : List Str) ++ (["bltu", "bgeu", "lui", "auipc", "jal", "ecall", "ebreak", "fence"] : List Str))), (fun K => He.ga K "WRITERS", ["three", "number", "shift", "store", "branch", "upper", "jump", "whole"]), (fun K => He.ga K "READERS", ["three", "number", "shift", "store", "branch", "upper", "jump", "whole"]), (fun K => He.ga K "TURNED", ["beq", "bne", "blt", "bge", "bltu", "bgeu"])]
def hex (K : PySem.W.Frag) : Bool := (((List.range 6).all fun o => Kg.entA K (He.ga K "FORMS") (opn o) [.str "branch", .int 99, .int (prt o), .int 0]) && ((Kg.entA K (He.ga K "FORMS") "addi" [.str "number", .int 19, .int 0, .int 0]) && ((Kg.entA K (He.ga K "FORMS") "jal" [.str "jump", .int 111, .int 0, .int 0]) && ((Kg.entA K (He.ga K "FORMS") "ebreak" [.str "whole", .int 115, .int 1048691, .int 0]) && ((Kg.kintB K (He.ga K "BY_LAST_BITS") [(99, opns.map V.str), (111, [.str "jal"])]) && ((He.valsB K (He.ga K "WRITERS") [("number", .glo "_write_number"), ("branch", .glo "_write_branch"), ("jump", .glo "_write_jump"), ("whole", .glo "_write_whole")]) && ((He.valsB K (He.ga K "READERS") [("branch", .glo "_read_branch"), ("jump", .glo "_read_jump")]) && ((He.valsB K (He.ga K "TURNED") ((List.range 6).map fun o => (opn o, He.Dv.str (opn (trn o))))) && true))))))))
abbrev hk : PySem.W.Hook := He.hookX 5 hfa hfn hts [] hex
def hob (s : PySem.W.SharedT) : He.AlX := He.obsX 5 hfa hfn hts [] hex (HandSHeadRun.getT s)
theorem hob_eq (s : PySem.W.SharedT) : hob s = hk.obs s.abs := He.obsX_eq (HandSHeadRun.getT_eq s)
def hloose : List Str := (["ImageError", "BadForm", "is_number", "FORMS", "BY_LAST_BITS", "MOST_REGISTER", "HALF_NUMBER", "HALF_BRANCH", "HALF_JUMP", "encode", "_are_registers", "_is_distance", "_write_three", "_write_number", "_write_store", "_write_branch", "_write_upper", "_write_jump", "_write_whole", "decode"] : List Str) ++ (["_with_sign", "_read_three", "_read_number", "_read_store", "_read_branch", "_read_upper", "_read_jump", "_read_whole", "WRITERS", "READERS", "TURNED", "LEAST_REACH", "MOST_REACH", "BYTES", "Assembled", "long_branches", "_sizes_of", "_starts_of", "assembled", "_add_word"] : List Str) ++ (["_add_branch", "_law_cell_at", "_law_draw", "_law_number", "_law_next", "_law_pick", "_law_lines", "_law_size", "_law_fits"] : List Str)
theorem hrunF (w : World) : HandSHeadRun.RunEq (PySem.W.OpenLaw.row PySem.Challenge.rw_trueimage_k70_long_branches) (PySem.W.view (PySem.W.OpenLaw.row PySem.Challenge.rw_trueimage_k70_long_branches).prog [54]) hk hob 9000 hloose (w.withFollow "special-get-raises" false) := by
  intro os
  kernel_rfl
theorem hrunT (w : World) : HandSHeadRun.RunEq (PySem.W.OpenLaw.row PySem.Challenge.rw_trueimage_k70_long_branches) (PySem.W.view (PySem.W.OpenLaw.row PySem.Challenge.rw_trueimage_k70_long_branches).prog [54]) hk hob 9000 hloose (w.withFollow "special-get-raises" true) := by
  intro os
  kernel_rfl
theorem hrun (w : World) : HandSHeadRun.RunEq (PySem.W.OpenLaw.row PySem.Challenge.rw_trueimage_k70_long_branches) (PySem.W.view (PySem.W.OpenLaw.row PySem.Challenge.rw_trueimage_k70_long_branches).prog [54]) hk hob 9000 hloose w := PySem.W.byRow2 "special-get-raises" (P := fun w => HandSHeadRun.RunEq (PySem.W.OpenLaw.row PySem.Challenge.rw_trueimage_k70_long_branches) (PySem.W.view (PySem.W.OpenLaw.row PySem.Challenge.rw_trueimage_k70_long_branches).prog [54]) hk hob 9000 hloose w) hrunF hrunT w
end K70E


namespace K70
open PySem PyProof.Rows L2 My Ru
open Builtin (bitAnd bitOr)
theorem and_lt {x m : Int} (h0 : 0 ≤ m) (h1 : m < 4294967296) : 0 ≤ (20 : Int) ∧ (bitAnd x m).natAbs < 2 ^ 64 := by
  have := bitAnd_range x h0
  refine ⟨by decide, ?_⟩
  have : (2 : Nat) ^ 64 = 18446744073709551616 := by decide
  omega
theorem pow_ok {i j : Int} (h0 : 0 ≤ j) (h1 : j ≤ 1000) (h2 : i.natAbs < 2 ^ 64) : 0 ≤ j ∧ j ≤ 1000000 ∧ i.natAbs < 2 ^ 64 := ⟨h0, by omega, h2⟩
section
variable {P : Program} {w : World} {K : PySem.W.Frag} {mg : Str → Option Value} {base : Heap}
theorem sc_is_number : FnScope ["thing", "least", "most"] ["thing", "least", "most"] (defScope s_is_number) := ⟨rfl, rfl, rfl, by decide +kernel, rfl, by decide +kernel, by decide +kernel⟩
theorem g_is_number (T : Txt K mg w)  : Gd P w K mg base CX0 1 "is_number" ["thing", "least", "most"] (sp_is_number K) := by
  have sc := sc_is_number
  refine T.d_is_number.ok sc len3 (fun _ _ _ _ _ _ us hl => match us, hl with | [_, _, _], _ => rfl) (fun f cdv A outer s H vs Q E hr h => ?_)
  obtain ⟨x0, x1, x2, rfl, h⟩ := h
  obtain ⟨n, a, b, rfl, rfl, rfl, h⟩ := h
  refine ⟨_, (pss_one (ps_ret (pe_and (pe_callB call_isi (by rfl) T.n_isinstance (by decide +kernel) (pa_cons (pv 0) (pa_cons (pe_bltn (v := .ty "int") (u := .type "int") (by rfl) T.n_int (by decide +kernel) rfl) pa_nil))) (pe_and (pe_not (pe_callB call_isi (by rfl) T.n_isinstance (by decide +kernel) (pa_cons (pv 0) (pa_cons (pe_bltn (v := .ty "bool") (u := .type "bool") (by rfl) T.n_bool (by decide +kernel) rfl) pa_nil)))) (pe_one (pe_chain op_le op_le (pv 1) (pv 0) (pv 2))))))), ?_⟩
  refine ⟨_, rfl, _, _, .type "int", .type "int", true, rfl, .ty "int", .base (.int _), kit_ty (by decide +kernel), true, rfl, ?_⟩
  refine if_true_of rfl ?_
  refine ⟨_, rfl, _, _, .type "int", .type "bool", false, rfl, .ty "bool", .base (.int _), kit_ty (by decide +kernel), false, rfl, true, rfl, ?_⟩
  refine if_true_of rfl ?_
  refine ⟨_, rfl, _, rfl, _, _, rfl, rfl, decide (a ≤ n), rfl, ?_⟩
  by_cases c : a ≤ n
  · rw [decide_eq_true c] at h ⊢
    refine if_true_of rfl ?_
    refine ⟨_, rfl, _, _, rfl, rfl, ?_⟩
    rw [Bool.true_and] at h
    exact h
  · rw [decide_eq_false c] at h ⊢
    refine if_false_of rfl ?_
    exact h
theorem sc__are_registers : FnScope ["one", "other", "third", "thing"] ["one", "other", "third"] (defScope s__are_registers) := ⟨rfl, rfl, rfl, by decide +kernel, rfl, by decide +kernel, by decide +kernel⟩
theorem g__are_registers (T : Txt K mg w) (G_is_number : Gd P w K mg base CX0 1 "is_number" ["thing", "least", "most"] (sp_is_number K)) : Gd P w K mg base CX0 2 "_are_registers" ["one", "other", "third"] (sp__are_registers K) := by
  have sc := sc__are_registers
  refine T.d__are_registers.ok sc len3 (fun _ _ _ _ _ _ us hl => match us, hl with | [_, _, _], _ => rfl) (fun f cdv A outer s H vs Q E hr h => ?_)
  obtain ⟨x0, x1, x2, rfl, h⟩ := h
  obtain ⟨a, b, c, rfl, rfl, rfl, ha, hb, hc, h⟩ := h
  refine ⟨_, (pss_one (ps_ret (pe_callB (cr_all rfl) (by rfl) T.n_all (by decide +kernel) (pa_cons (pe_lc (own := [("thing", 3)]) (g := gName 3) (by rfl) sc.nd (pi_tup (pe_tup (pa_cons (pv 0) (pa_cons (pv 1) (pa_cons (pv 2) pa_nil))))) (blkOk_by (own := [("thing", 3)]) (N := ["one", "other", "third", "thing"]) (sc := defScope s__are_registers) (by decide +kernel)) (fun _ _ _ _ _ => (pg_name (i := 3) sc.nd rfl (Or.inl rfl))) (fun _ _ _ _ _ => pts_nil) (fun _ _ _ _ _ => (pe_g G_is_number (hr.mono (by omega)) pass0 (pa_cons (pv 3) (pa_cons pe_int (pa_cons (pe_gint T.c_MOST_REGISTER) pa_nil)))))) pa_nil)))), ?_⟩
  refine ⟨_, rfl, _, rfl, _, rfl, (by show 3 ≤ sizeLine; decide), fun t ht => ⟨t, rfl, ⟨_, SqT.of upd_same⟩, fun D hD => ?_⟩⟩
  have htD : t ≠ D := fun z => by rw [z, upd_same] at hD; cases hD
  refine lc_tup (a := t) (xs := [.int a, .int b, .int c]) (fun i H' => Same (upd H t (.tup [.int a, .int b, .int c])) H' ∧ H' D = some (.lst (List.replicate i (.bl true)))) ⟨same_new hD, upd_same⟩ (fun i H' _ p => SqT.of (p.1 _ _ upd_same)) (fun i x H' hx p => ?_) (fun H' p => ?_)
  · have hn : ∃ n : Int, x = .int n ∧ 0 ≤ n ∧ n ≤ 31 := by
      match i, hx with
      | 0, hx => injection hx with hx; exact ⟨a, hx.symm, ha⟩
      | 1, hx => injection hx with hx; exact ⟨b, hx.symm, hb⟩
      | 2, hx => injection hx with hx; exact ⟨c, hx.symm, hc⟩
      | i + 3, hx => simp at hx
    have hi : i < 3 := by
      by_cases z : i < 3
      · exact z
      · rw [List.getElem?_eq_none (by show 3 ≤ i; omega)] at hx; cases hx
    obtain ⟨n, rfl, h0, h1⟩ := hn
    refine ⟨rfl, ?_⟩
    dsimp only [tYes]
    rw [if_pos rfl]
    refine ⟨_, rfl, _, _, _, rfl, n, 0, 31, rfl, rfl, rfl, ?_⟩
    rw [decide_eq_true h0, decide_eq_true h1]
    refine ⟨_, p.2, (by rw [List.length_replicate]; exact tup_lt (by omega)), fun x o e => ?_, ?_⟩
    · by_cases z : x = D
      · rw [z, upd_ne htD.symm] at e
        rw [upd_ne htD.symm] at hD
        rw [hD] at e; cases e
      · rw [upd_ne z]; exact p.1 _ _ e
    · rw [upd_same, List.replicate_succ']; rfl
  · refine ⟨D, List.replicate 3 true, rfl, SqL.of (by rw [p.2]; rfl), ?_⟩
    exact h _ (Same.tr (same_new ht) p.1)
theorem sc__is_distance : FnScope ["thing", "half"] ["thing", "half"] (defScope s__is_distance) := ⟨rfl, rfl, rfl, by decide +kernel, rfl, by decide +kernel, by decide +kernel⟩
theorem g__is_distance (T : Txt K mg w) (G_is_number : Gd P w K mg base CX0 1 "is_number" ["thing", "least", "most"] (sp_is_number K)) : Gd P w K mg base CX0 2 "_is_distance" ["thing", "half"] (sp__is_distance K) := by
  have sc := sc__is_distance
  refine T.d__is_distance.ok sc len2 (fun _ _ _ _ _ _ us hl => match us, hl with | [_, _], _ => rfl) (fun f cdv A outer s H vs Q E hr h => ?_)
  obtain ⟨x0, x1, rfl, h⟩ := h
  obtain ⟨d, g, rfl, rfl, h1, h2, h3, h⟩ := h
  refine ⟨_, (pss_one (ps_ret (pe_and (pe_g G_is_number (hr.mono (by omega)) pass0 (pa_cons (pv 0) (pa_cons (pe_un un_neg (pv 1)) (pa_cons (pe_op op_sub (pv 1) pe_int) pa_nil)))) (pe_one (pe_cmpR op_eq (pe_op op_and (pv 0) pe_int) pe_int (nomark _)))))), ?_⟩
  refine ⟨_, rfl, _, rfl, _, rfl, _, rfl, _, _, rfl, rfl, ?_⟩
  refine ⟨_, _, _, rfl, _, _, _, rfl, rfl, rfl, ?_⟩
  rw [decide_eq_true h1, decide_eq_true h2]
  refine ⟨_, rfl, ?_⟩
  refine if_true_of rfl ?_
  refine ⟨_, rfl, _, _, rfl, rfl, rfl, ?_⟩
  have e : (V.bl (decide (V.int (bitAnd d 1) = V.int 0))) = .bl true := by rw [h3]; rfl
  show Q (V.bl (decide (V.int (bitAnd d 1) = V.int 0))) H
  rw [e]
  exact h
theorem sc__write_number : FnScope ["one", "other", "number"] ["one", "other", "number"] (defScope s__write_number) := ⟨rfl, rfl, rfl, by decide +kernel, rfl, by decide +kernel, by decide +kernel⟩
theorem g__write_number (T : Txt K mg w) (G__are_registers : Gd P w K mg base CX0 2 "_are_registers" ["one", "other", "third"] (sp__are_registers K)) (G_is_number : Gd P w K mg base CX0 1 "is_number" ["thing", "least", "most"] (sp_is_number K)) : Gd P w K mg base CX0 3 "_write_number" ["one", "other", "number"] (sp__write_number K) := by
  have sc := sc__write_number
  refine T.d__write_number.ok sc len3 (fun _ _ _ _ _ _ us hl => match us, hl with | [_, _, _], _ => rfl) (fun f cdv A outer s H vs Q E hr h => ?_)
  obtain ⟨x0, x1, x2, rfl, h⟩ := h
  obtain ⟨rfl, rfl, rfl, h⟩ := h
  refine ⟨_, (pss_cons (ps_if (PW.pt (pw_or (pt_not (pt_val (pe_g G__are_registers (hr.mono (by omega)) pass0 (pa_cons (pv 0) (pa_cons (pv 1) (pa_cons pe_int pa_nil)))))) (pw_or1 (pt_not (pt_val (pe_g G_is_number (hr.mono (by omega)) pass0 (pa_cons (pv 2) (pa_cons (pe_un un_neg (pe_gint T.c_HALF_NUMBER)) (pa_cons (pe_op op_sub (pe_gint T.c_HALF_NUMBER) pe_int) pa_nil))))))))) (pss_one (ps_ret pe_non)) pss_nil)
      (pss_one (ps_ret (pe_op op_or (pe_op op_or (pe_op op_shl (pe_op op_and (pv 2) pe_int) pe_int) (pe_op op_shl (pv 1) pe_int)) (pe_op op_shl (pv 0) pe_int))))), ?_⟩
  refine ⟨_, rfl, _, rfl, _, _, _, rfl, 0, 0, 0, rfl, rfl, rfl, ⟨by decide, by decide⟩, ⟨by decide, by decide⟩, ⟨by decide, by decide⟩, fun H1 s1 => ⟨true, rfl, if_false_of rfl ?_⟩⟩
  refine ⟨_, rfl, _, rfl, _, _, rfl, rfl, _, _, _, rfl, 0, -2048, 2047, rfl, rfl, rfl, true, rfl, if_false_of rfl ?_⟩
  refine ⟨_, rfl, _, _, rfl, rfl, _, _, rfl, rfl, ⟨by decide, by decide, by decide +kernel⟩, ?_⟩
  refine ⟨_, rfl, _, _, rfl, rfl, ⟨by decide, by decide, by decide⟩, _, _, rfl, rfl, ?_⟩
  refine ⟨_, rfl, _, _, rfl, rfl, ⟨by decide, by decide, by decide⟩, _, _, rfl, rfl, ?_⟩
  have e : bitOr (bitOr (bitAnd 0 4095 * 2 ^ (20 : Int).toNat) (0 * 2 ^ (15 : Int).toNat)) (0 * 2 ^ (7 : Int).toNat) = 0 := by decide +kernel
  show Q (V.int (bitOr (bitOr (bitAnd 0 4095 * 2 ^ (20 : Int).toNat) (0 * 2 ^ (15 : Int).toNat)) (0 * 2 ^ (7 : Int).toNat))) H1
  rw [e]
  exact h _ s1
theorem sc__write_branch : FnScope ["one", "other", "distance", "high"] ["one", "other", "distance"] (defScope s__write_branch) := ⟨rfl, rfl, rfl, by decide +kernel, rfl, by decide +kernel, by decide +kernel⟩
theorem g__write_branch (T : Txt K mg w) (G__are_registers : Gd P w K mg base CX0 2 "_are_registers" ["one", "other", "third"] (sp__are_registers K)) (G__is_distance : Gd P w K mg base CX0 2 "_is_distance" ["thing", "half"] (sp__is_distance K)) : Gd P w K mg base CX0 3 "_write_branch" ["one", "other", "distance"] (sp__write_branch K) := by
  have sc := sc__write_branch
  refine T.d__write_branch.ok sc len3 (fun _ _ _ _ _ _ us hl => match us, hl with | [_, _, _], _ => rfl) (fun f cdv A outer s H vs Q E hr h => ?_)
  obtain ⟨x0, x1, x2, rfl, h⟩ := h
  obtain ⟨k, rfl, rfl, rfl, h1, h2, h⟩ := h
  refine ⟨_, (pss_cons (ps_if (PW.pt (pw_or (pt_not (pt_val (pe_g G__are_registers (hr.mono (by omega)) pass0 (pa_cons (pv 0) (pa_cons (pv 1) (pa_cons pe_int pa_nil)))))) (pw_or1 (pt_not (pt_val (pe_g G__is_distance (hr.mono (by omega)) pass0 (pa_cons (pv 2) (pa_cons (pe_gint T.c_HALF_BRANCH) pa_nil)))))))) (pss_one (ps_ret pe_non)) pss_nil)
      (pss_cons (ps_set (i := 3) sc.nd rfl (Or.inl rfl) (pe_op op_or (pe_op op_shl (pe_op op_and (pe_op op_shr (pv 2) pe_int) pe_int) pe_int) (pe_op op_shl (pe_op op_and (pe_op op_shr (pv 2) pe_int) pe_int) pe_int)))
      (pss_one (ps_ret (pe_op op_or (pe_op op_or (pe_op op_or (pe_op op_or (pv 3) (pe_op op_shl (pv 1) pe_int)) (pe_op op_shl (pv 0) pe_int)) (pe_op op_shl (pe_op op_and (pe_op op_shr (pv 2) pe_int) pe_int) pe_int)) (pe_op op_shl (pe_op op_and (pe_op op_shr (pv 2) pe_int) pe_int) pe_int)))))), ?_⟩
  refine ⟨_, rfl, _, rfl, _, _, _, rfl, 10, 11, 0, rfl, rfl, rfl, ⟨by decide, by decide⟩, ⟨by decide, by decide⟩, ⟨by decide, by decide⟩, fun H1 s1 => ⟨true, rfl, if_false_of rfl ?_⟩⟩
  refine ⟨_, rfl, _, _, rfl, 4 * k, 4096, rfl, rfl, by omega, by omega, by rw [m1]; omega, true, rfl, if_false_of rfl ?_⟩
  refine ⟨_, rfl, _, _, rfl, rfl, (by dsimp only; decide), _, _, rfl, rfl, _, _, rfl, rfl, pow_ok (by decide) (by decide) (and_lt (by decide) (by decide)).2, ?_⟩
  refine ⟨_, rfl, _, _, rfl, rfl, (by dsimp only; decide), _, _, rfl, rfl, _, _, rfl, rfl, pow_ok (by decide) (by decide) (and_lt (by decide) (by decide)).2, _, _, rfl, rfl, ?_⟩
  refine ⟨_, rfl, _, rfl, _, _, rfl, rfl, pow_ok (by decide) (by decide) (by decide), _, _, rfl, rfl, ?_⟩
  refine ⟨_, rfl, _, _, rfl, rfl, pow_ok (by decide) (by decide) (by decide), _, _, rfl, rfl, ?_⟩
  refine ⟨_, rfl, _, _, rfl, rfl, (by dsimp only; decide), _, _, rfl, rfl, _, _, rfl, rfl, pow_ok (by decide) (by decide) (and_lt (by decide) (by decide)).2, _, _, rfl, rfl, ?_⟩
  refine ⟨_, rfl, _, _, rfl, rfl, (by dsimp only; decide), _, _, rfl, rfl, _, _, rfl, rfl, pow_ok (by decide) (by decide) (and_lt (by decide) (by decide)).2, _, _, rfl, rfl, ?_⟩
  exact h _ s1
theorem sc__write_jump : FnScope ["one", "distance", "nought", "high"] ["one", "distance", "nought"] (defScope s__write_jump) := ⟨rfl, rfl, rfl, by decide +kernel, rfl, by decide +kernel, by decide +kernel⟩
theorem g__write_jump (T : Txt K mg w) (G__are_registers : Gd P w K mg base CX0 2 "_are_registers" ["one", "other", "third"] (sp__are_registers K)) (G__is_distance : Gd P w K mg base CX0 2 "_is_distance" ["thing", "half"] (sp__is_distance K)) (G_is_number : Gd P w K mg base CX0 1 "is_number" ["thing", "least", "most"] (sp_is_number K)) : Gd P w K mg base CX0 3 "_write_jump" ["one", "distance", "nought"] (sp__write_jump K) := by
  have sc := sc__write_jump
  refine T.d__write_jump.ok sc len3 (fun _ _ _ _ _ _ us hl => match us, hl with | [_, _, _], _ => rfl) (fun f cdv A outer s H vs Q E hr h => ?_)
  obtain ⟨x0, x1, x2, rfl, h⟩ := h
  obtain ⟨k, rfl, rfl, rfl, h1, h2, h⟩ := h
  refine ⟨_, (pss_cons (ps_if (PW.pt (pw_or (pt_not (pt_val (pe_g G__are_registers (hr.mono (by omega)) pass0 (pa_cons (pv 0) (pa_cons pe_int (pa_cons pe_int pa_nil)))))) (pw_or (pt_not (pt_val (pe_g G__is_distance (hr.mono (by omega)) pass0 (pa_cons (pv 1) (pa_cons (pe_gint T.c_HALF_JUMP) pa_nil))))) (pw_or1 (pt_not (pt_val (pe_g G_is_number (hr.mono (by omega)) pass0 (pa_cons (pv 2) (pa_cons pe_int (pa_cons pe_int pa_nil)))))))))) (pss_one (ps_ret pe_non)) pss_nil)
      (pss_cons (ps_set (i := 3) sc.nd rfl (Or.inl rfl) (pe_op op_or (pe_op op_shl (pe_op op_and (pe_op op_shr (pv 1) pe_int) pe_int) pe_int) (pe_op op_shl (pe_op op_and (pe_op op_shr (pv 1) pe_int) pe_int) pe_int)))
      (pss_one (ps_ret (pe_op op_or (pe_op op_or (pe_op op_or (pv 3) (pe_op op_shl (pe_op op_and (pe_op op_shr (pv 1) pe_int) pe_int) pe_int)) (pe_op op_shl (pe_op op_and (pe_op op_shr (pv 1) pe_int) pe_int) pe_int)) (pe_op op_shl (pv 0) pe_int)))))), ?_⟩
  refine ⟨_, rfl, _, _, _, rfl, 0, 0, 0, rfl, rfl, rfl, ⟨by decide, by decide⟩, ⟨by decide, by decide⟩, ⟨by decide, by decide⟩, fun H1 s1 => ⟨true, rfl, if_false_of rfl ?_⟩⟩
  refine ⟨_, rfl, _, _, rfl, 4 * k, 1048576, rfl, rfl, by omega, by omega, by rw [m1]; omega, true, rfl, if_false_of rfl ?_⟩
  refine ⟨_, rfl, _, _, _, rfl, 0, 0, 0, rfl, rfl, rfl, true, rfl, if_false_of rfl ?_⟩
  refine ⟨_, rfl, _, _, rfl, rfl, (by dsimp only; decide), _, _, rfl, rfl, _, _, rfl, rfl, pow_ok (by decide) (by decide) (and_lt (by decide) (by decide)).2, ?_⟩
  refine ⟨_, rfl, _, _, rfl, rfl, (by dsimp only; decide), _, _, rfl, rfl, _, _, rfl, rfl, pow_ok (by decide) (by decide) (and_lt (by decide) (by decide)).2, _, _, rfl, rfl, ?_⟩
  refine ⟨_, rfl, _, rfl, _, _, rfl, rfl, (by dsimp only; decide), _, _, rfl, rfl, _, _, rfl, rfl, pow_ok (by decide) (by decide) (and_lt (by decide) (by decide)).2, _, _, rfl, rfl, ?_⟩
  refine ⟨_, rfl, _, _, rfl, rfl, (by dsimp only; decide), _, _, rfl, rfl, _, _, rfl, rfl, pow_ok (by decide) (by decide) (and_lt (by decide) (by decide)).2, _, _, rfl, rfl, ?_⟩
  refine ⟨_, rfl, _, _, rfl, rfl, pow_ok (by decide) (by decide) (by decide), _, _, rfl, rfl, ?_⟩
  exact h _ s1
theorem sc__write_whole : FnScope ["one", "other", "third"] ["one", "other", "third"] (defScope s__write_whole) := ⟨rfl, rfl, rfl, by decide +kernel, rfl, by decide +kernel, by decide +kernel⟩
theorem g__write_whole (T : Txt K mg w) (G_is_number : Gd P w K mg base CX0 1 "is_number" ["thing", "least", "most"] (sp_is_number K)) : Gd P w K mg base CX0 2 "_write_whole" ["one", "other", "third"] (sp__write_whole K) := by
  have sc := sc__write_whole
  refine T.d__write_whole.ok sc len3 (fun _ _ _ _ _ _ us hl => match us, hl with | [_, _, _], _ => rfl) (fun f cdv A outer s H vs Q E hr h => ?_)
  obtain ⟨x0, x1, x2, rfl, h⟩ := h
  obtain ⟨rfl, rfl, rfl, h⟩ := h
  refine ⟨_, (pss_one (ps_ret (pe_ifExp (PW.pt (pw_and (pt_val (pe_g G_is_number (hr.mono (by omega)) pass0 (pa_cons (pv 0) (pa_cons pe_int (pa_cons pe_int pa_nil))))) (pw_and (pt_val (pe_g G_is_number (hr.mono (by omega)) pass0 (pa_cons (pv 1) (pa_cons pe_int (pa_cons pe_int pa_nil))))) (pw_and1 (pt_val (pe_g G_is_number (hr.mono (by omega)) pass0 (pa_cons (pv 2) (pa_cons pe_int (pa_cons pe_int pa_nil))))))))) pe_int pe_non))), ?_⟩
  refine ⟨_, rfl, _, _, _, rfl, 0, 0, 0, rfl, rfl, rfl, true, rfl, if_true_of rfl ?_⟩
  refine ⟨_, rfl, _, _, _, rfl, 0, 0, 0, rfl, rfl, rfl, true, rfl, if_true_of rfl ?_⟩
  refine ⟨_, rfl, _, _, _, rfl, 0, 0, 0, rfl, rfl, rfl, true, rfl, if_true_of rfl ?_⟩
  exact h
theorem sc__with_sign : FnScope ["number", "half"] ["number", "half"] (defScope s__with_sign) := ⟨rfl, rfl, rfl, by decide +kernel, rfl, by decide +kernel, by decide +kernel⟩
theorem g__with_sign (T : Txt K mg w)  : Gd P w K mg base CX0 1 "_with_sign" ["number", "half"] (sp__with_sign K) := by
  have sc := sc__with_sign
  refine T.d__with_sign.ok sc len2 (fun _ _ _ _ _ _ us hl => match us, hl with | [_, _], _ => rfl) (fun f cdv A outer s H vs Q E hr h => ?_)
  obtain ⟨x0, x1, rfl, h⟩ := h
  obtain ⟨n, g, rfl, rfl, h⟩ := h
  refine ⟨_, (pss_one (ps_ret (pe_ifExp (pt_cmpR op_ge (pv 0) (pv 1) (nomark _)) (pe_op op_sub (pv 0) (pe_op op_mul pe_int (pv 1))) (pv 0)))), ?_⟩
  refine ⟨_, rfl, _, rfl, _, _, rfl, rfl, _, rfl, ?_⟩
  unfold sgn at h
  by_cases c : g ≤ n
  · rw [if_pos c] at h
    refine if_true_of (decide_eq_true c) ?_
    exact ⟨_, rfl, _, rfl, _, _, rfl, rfl, Or.inl ⟨by decide, by decide⟩, _, _, rfl, rfl, h⟩
  · rw [if_neg c] at h
    refine if_false_of (decide_eq_false c) ?_
    exact ⟨_, rfl, h⟩
theorem sc__read_branch : FnScope ["word", "distance"] ["word"] (defScope s__read_branch) := ⟨rfl, rfl, rfl, by decide +kernel, rfl, by decide +kernel, by decide +kernel⟩
theorem g__read_branch (T : Txt K mg w) (G__with_sign : Gd P w K mg base CX0 1 "_with_sign" ["number", "half"] (sp__with_sign K)) : Gd P w K mg base CX0 2 "_read_branch" ["word"] (sp__read_branch K) := by
  have sc := sc__read_branch
  refine T.d__read_branch.ok sc len1 (fun _ _ _ _ _ _ us hl => match us, hl with | [_], _ => rfl) (fun f cdv A outer s H vs Q E hr h => ?_)
  obtain ⟨x0, rfl, h⟩ := h
  obtain ⟨w, rfl, hw0, hw1, h⟩ := h
  refine ⟨_, (pss_cons (ps_set (i := 1) sc.nd rfl (Or.inl rfl) (pe_op op_or (pe_op op_or (pe_op op_or (pe_op op_shl (pe_op op_shr (pv 0) pe_int) pe_int) (pe_op op_shl (pe_op op_and (pe_op op_shr (pv 0) pe_int) pe_int) pe_int)) (pe_op op_shl (pe_op op_and (pe_op op_shr (pv 0) pe_int) pe_int) pe_int)) (pe_op op_shl (pe_op op_and (pe_op op_shr (pv 0) pe_int) pe_int) pe_int)))
      (pss_one (ps_ret (pe_tup (pa_cons (pe_op op_and (pe_op op_shr (pv 0) pe_int) pe_int) (pa_cons (pe_op op_and (pe_op op_shr (pv 0) pe_int) pe_int) (pa_cons (pe_g G__with_sign (hr.mono (by omega)) pass0 (pa_cons (pv 1) (pa_cons (pe_gint T.c_HALF_BRANCH) pa_nil))) pa_nil))))))), ?_⟩
  have hq : (w / 2 ^ (31 : Int).toNat).natAbs < 2 ^ 64 := by
    have e : (2 : Int) ^ (31 : Int).toNat = 2147483648 := by decide
    have e2 : (2 : Nat) ^ 64 = 18446744073709551616 := by decide
    rw [e, e2]; omega
  refine ⟨_, rfl, _, _, rfl, rfl, (by dsimp only; decide), _, _, rfl, rfl, pow_ok (by decide) (by decide) hq, ?_⟩
  refine ⟨_, rfl, _, _, rfl, rfl, (by dsimp only; decide), _, _, rfl, rfl, _, _, rfl, rfl, pow_ok (by decide) (by decide) (and_lt (by decide) (by decide)).2, _, _, rfl, rfl, ?_⟩
  refine ⟨_, rfl, _, _, rfl, rfl, (by dsimp only; decide), _, _, rfl, rfl, _, _, rfl, rfl, pow_ok (by decide) (by decide) (and_lt (by decide) (by decide)).2, _, _, rfl, rfl, ?_⟩
  refine ⟨_, rfl, _, _, rfl, rfl, (by dsimp only; decide), _, _, rfl, rfl, _, _, rfl, rfl, pow_ok (by decide) (by decide) (and_lt (by decide) (by decide)).2, _, _, rfl, rfl, ?_⟩
  refine ⟨_, rfl, _, _, rfl, rfl, (by dsimp only; decide), _, _, rfl, rfl, ?_⟩
  refine ⟨_, rfl, _, _, rfl, rfl, (by dsimp only; decide), _, _, rfl, rfl, ?_⟩
  refine ⟨_, rfl, _, _, rfl, _, _, rfl, rfl, (by show 3 ≤ sizeLine; decide), fun p hp => ?_⟩
  exact h p hp
theorem sc__read_jump : FnScope ["word", "distance"] ["word"] (defScope s__read_jump) := ⟨rfl, rfl, rfl, by decide +kernel, rfl, by decide +kernel, by decide +kernel⟩
theorem g__read_jump (T : Txt K mg w) (G__with_sign : Gd P w K mg base CX0 1 "_with_sign" ["number", "half"] (sp__with_sign K)) : Gd P w K mg base CX0 2 "_read_jump" ["word"] (sp__read_jump K) := by
  have sc := sc__read_jump
  refine T.d__read_jump.ok sc len1 (fun _ _ _ _ _ _ us hl => match us, hl with | [_], _ => rfl) (fun f cdv A outer s H vs Q E hr h => ?_)
  obtain ⟨x0, rfl, h⟩ := h
  obtain ⟨w, rfl, hw0, hw1, h⟩ := h
  refine ⟨_, (pss_cons (ps_set (i := 1) sc.nd rfl (Or.inl rfl) (pe_op op_or (pe_op op_or (pe_op op_or (pe_op op_shl (pe_op op_shr (pv 0) pe_int) pe_int) (pe_op op_shl (pe_op op_and (pe_op op_shr (pv 0) pe_int) pe_int) pe_int)) (pe_op op_shl (pe_op op_and (pe_op op_shr (pv 0) pe_int) pe_int) pe_int)) (pe_op op_shl (pe_op op_and (pe_op op_shr (pv 0) pe_int) pe_int) pe_int)))
      (pss_one (ps_ret (pe_tup (pa_cons (pe_op op_and (pe_op op_shr (pv 0) pe_int) pe_int) (pa_cons (pe_g G__with_sign (hr.mono (by omega)) pass0 (pa_cons (pv 1) (pa_cons (pe_gint T.c_HALF_JUMP) pa_nil))) (pa_cons pe_int pa_nil))))))), ?_⟩
  have hq : (w / 2 ^ (31 : Int).toNat).natAbs < 2 ^ 64 := by
    have e : (2 : Int) ^ (31 : Int).toNat = 2147483648 := by decide
    have e2 : (2 : Nat) ^ 64 = 18446744073709551616 := by decide
    rw [e, e2]; omega
  refine ⟨_, rfl, _, _, rfl, rfl, (by dsimp only; decide), _, _, rfl, rfl, pow_ok (by decide) (by decide) hq, ?_⟩
  refine ⟨_, rfl, _, _, rfl, rfl, (by dsimp only; decide), _, _, rfl, rfl, _, _, rfl, rfl, pow_ok (by decide) (by decide) (and_lt (by decide) (by decide)).2, _, _, rfl, rfl, ?_⟩
  refine ⟨_, rfl, _, _, rfl, rfl, (by dsimp only; decide), _, _, rfl, rfl, _, _, rfl, rfl, pow_ok (by decide) (by decide) (and_lt (by decide) (by decide)).2, _, _, rfl, rfl, ?_⟩
  refine ⟨_, rfl, _, _, rfl, rfl, (by dsimp only; decide), _, _, rfl, rfl, _, _, rfl, rfl, pow_ok (by decide) (by decide) (and_lt (by decide) (by decide)).2, _, _, rfl, rfl, ?_⟩
  refine ⟨_, rfl, _, _, rfl, rfl, (by dsimp only; decide), _, _, rfl, rfl, ?_⟩
  refine ⟨_, rfl, _, _, rfl, _, _, rfl, rfl, (by show 3 ≤ sizeLine; decide), fun p hp => ?_⟩
  exact h p hp
end
end K70

namespace K70
open PySem PyProof.Rows L2 My Ru
open Builtin (bitAnd bitOr)
theorem wB_range {o : Nat} (ho : o < 6) (d : Int) : 0 ≤ wB o d ∧ wB o d < 4294967296 := by
  have hp := prt_ok o ho
  have e := wB_eq ho d
  have h12 : 0 ≤ d / 4096 % 2 ∧ d / 4096 % 2 < 2 := by omega
  have h5 : 0 ≤ d / 32 % 64 ∧ d / 32 % 64 < 64 := by omega
  have h1 : 0 ≤ d / 2 % 16 ∧ d / 2 % 16 < 16 := by omega
  have h11 : 0 ≤ d / 2048 % 2 ∧ d / 2048 % 2 < 2 := by omega
  generalize d / 4096 % 2 = f12 at *
  generalize d / 32 % 64 = f5 at *
  generalize d / 2 % 16 = f1 at *
  generalize d / 2048 % 2 = f11 at *
  omega
theorem wJ_range (d : Int) : 0 ≤ wJ d ∧ wJ d < 4294967296 := by
  have e := wJ_eq d
  have h20 : 0 ≤ d / 1048576 % 2 ∧ d / 1048576 % 2 < 2 := by omega
  have h1 : 0 ≤ d / 2 % 1024 ∧ d / 2 % 1024 < 1024 := by omega
  have h11 : 0 ≤ d / 2048 % 2 ∧ d / 2048 % 2 < 2 := by omega
  have h12 : 0 ≤ d / 4096 % 256 ∧ d / 4096 % 256 < 256 := by omega
  generalize d / 1048576 % 2 = f20 at *
  generalize d / 2 % 1024 = f1 at *
  generalize d / 2048 % 2 = f11 at *
  generalize d / 4096 % 256 = f12 at *
  omega

theorem prt_ne : ∀ o, o < 6 → ∀ i, i < 6 → o ≠ i → prt o ≠ prt i := by decide
inductive Wr (K : PySem.W.Frag) : Addr → Sp → Prop where
  | number : Wr K (He.ga K "_write_number") (sp__write_number K)
  | branch : Wr K (He.ga K "_write_branch") (sp__write_branch K)
  | jump : Wr K (He.ga K "_write_jump") (sp__write_jump K)
  | whole : Wr K (He.ga K "_write_whole") (sp__write_whole K)
inductive Rr (K : PySem.W.Frag) : Addr → Sp → Prop where
  | branch : Rr K (He.ga K "_read_branch") (sp__read_branch K)
  | jump : Rr K (He.ga K "_read_jump") (sp__read_jump K)
theorem ent_in {K : PySem.W.Frag} {d x : Str} {vs : List V} (h : Ent K d x vs) : ∃ r, PySem.W.nsIn K (He.ga K d) x = some (some r) := let ⟨a, e, _⟩ := h; ⟨.ref a, e⟩
theorem ent_kd {K : PySem.W.Frag} {w : World} {d x : Str} {vs : List V} (k : ∃ es n, KDict K w (He.ga K d) es n) (h : Ent K d x vs) : ∃ a, KDct K w (He.ga K d) x (.ref a) ∧ ∀ H : Hp, SqT K H a vs := by
  obtain ⟨es, n, D⟩ := k
  obtain ⟨a, e, q⟩ := h
  exact ⟨a, ⟨es, n, _, D.at_, D.lit, e, rfl⟩, q⟩
/-- how an instruction is written -/
structure Way (K : PySem.W.Frag) (w : World) (i : Ins) (nm : Str) (a b c : V) (fo : Str) (l pa fi : Int) (wf : Addr) (sp : Sp) (pv : Int) : Prop where
  ins : insV i = [.str nm, a, b, c]
  ent : Ent K "FORMS" nm [.str fo, .int l, .int pa, .int fi]
  wr : KDct K w (He.ga K "WRITERS") fo (.ref wf)
  W : Wr K wf sp
  run : ∀ (H : Hp) (Q : VK) (E : XK), (∀ H', Same H H' → Q (.int pv) H') → sp [a, b, c] H Q E
  res : (fo ≠ "whole" ∧ pv.natAbs < 2 ^ 64 ∧ pa.natAbs < 2 ^ 64 ∧ fi.natAbs < 2 ^ 64 ∧ insW i = fin pv l pa fi) ∨ (fo = "whole" ∧ insW i = pa)
theorem way {K : PySem.W.Frag} {mg : Str → Option Value} {w : World} (T : Txt K mg w) {i : Ins} (h : insOk i) : ∃ nm a b c fo l pa fi wf sp pv, Way K w i nm a b c fo l pa fi wf sp pv := by
  cases i with
  | addi => exact ⟨_, _, _, _, _, _, _, _, _, _, 0, rfl, T.f_addi, T.w_number, .number, fun H Q E q => ⟨_, _, _, rfl, rfl, rfl, rfl, q⟩, Or.inl ⟨by decide, by decide, by decide, by decide, by decide +kernel⟩⟩
  | ebreak => exact ⟨_, _, _, _, _, _, _, _, _, _, 0, rfl, T.f_ebreak, T.w_whole, .whole, fun H Q E q => ⟨_, _, _, rfl, rfl, rfl, rfl, q H Same.rf⟩, Or.inr ⟨rfl, rfl⟩⟩
  | br o k =>
    obtain ⟨ho, h1, h2⟩ := h
    have hp := prt_ok o ho
    have e64 : (2 : Nat) ^ 64 = 18446744073709551616 := by decide
    refine ⟨_, _, _, _, _, _, _, _, _, _, wB0 (4 * k), rfl, T.f_br o ho, T.w_branch, .branch, fun H Q E q => ⟨_, _, _, rfl, k, rfl, rfl, rfl, h1, h2, q⟩, Or.inl ⟨by decide, ?_, by rw [e64]; omega, by decide, rfl⟩⟩
    unfold wB0
    rw [m1, m1, m4, m6, p31, p25, p20, p15, p12, p11, p8, p7, p5, p1]
    have h12 : 0 ≤ (4 * k) / 4096 % 2 ∧ (4 * k) / 4096 % 2 < 2 := by omega
    have h5 : 0 ≤ (4 * k) / 32 % 64 ∧ (4 * k) / 32 % 64 < 64 := by omega
    have h1 : 0 ≤ (4 * k) / 2 % 16 ∧ (4 * k) / 2 % 16 < 16 := by omega
    have h11 : 0 ≤ (4 * k) / 2048 % 2 ∧ (4 * k) / 2048 % 2 < 2 := by omega
    generalize (4 * k) / 4096 % 2 = f12 at *
    generalize (4 * k) / 32 % 64 = f5 at *
    generalize (4 * k) / 2 % 16 = f1 at *
    generalize (4 * k) / 2048 % 2 = f11 at *
    rw [or_fieldL 6 25 p6 p25 (by omega) (by omega) (by omega), or_fieldL 5 20 p5 p20 (by omega) (by omega) (by omega), or_fieldL 5 15 p5 p15 (by omega) (by omega) (by omega), or_fieldL 4 8 p4 p8 (by omega) (by omega) (by omega), or_fieldL 1 7 p1 p7 (by omega) (by omega) (by omega), e64]
    omega
  | jal k =>
    obtain ⟨h1, h2⟩ := h
    have e64 : (2 : Nat) ^ 64 = 18446744073709551616 := by decide
    refine ⟨_, _, _, _, _, _, _, _, _, _, wJ0 (4 * k), rfl, T.f_jal, T.w_jump, .jump, fun H Q E q => ⟨_, _, _, rfl, k, rfl, rfl, rfl, h1, h2, q⟩, Or.inl ⟨by decide, ?_, by decide, by decide, rfl⟩⟩
    unfold wJ0
    rw [m1, m1, m8, m10, or0, p31, p21, p20, p12, p11, p1]
    have h20 : 0 ≤ (4 * k) / 1048576 % 2 ∧ (4 * k) / 1048576 % 2 < 2 := by omega
    have h1 : 0 ≤ (4 * k) / 2 % 1024 ∧ (4 * k) / 2 % 1024 < 1024 := by omega
    have h11 : 0 ≤ (4 * k) / 2048 % 2 ∧ (4 * k) / 2048 % 2 < 2 := by omega
    have h12 : 0 ≤ (4 * k) / 4096 % 256 ∧ (4 * k) / 4096 % 256 < 256 := by omega
    generalize (4 * k) / 1048576 % 2 = f20 at *
    generalize (4 * k) / 2 % 1024 = f1 at *
    generalize (4 * k) / 2048 % 2 = f11 at *
    generalize (4 * k) / 4096 % 256 = f12 at *
    rw [or_fieldL 10 21 p10 p21 (by omega) (by omega) (by omega), or_fieldL 1 20 p1 p20 (by omega) (by omega) (by omega), or_fieldL 8 12 p8 p12 (by omega) (by omega) (by omega), e64]
    omega
section
variable {P : Program} {w : World} {K : PySem.W.Frag} {mg : Str → Option Value} {base : Heap}
theorem sc_encode : FnScope ["instruction", "write", "parts", "name", "one", "other", "third", "form", "last", "part", "first"] ["instruction"] (defScope s_encode) := ⟨rfl, rfl, rfl, by decide +kernel, rfl, by decide +kernel, by decide +kernel⟩
theorem g_encode (T : Txt K mg w) (G__write_number : Gd P w K mg base CX0 3 "_write_number" ["one", "other", "number"] (sp__write_number K)) (G__write_branch : Gd P w K mg base CX0 3 "_write_branch" ["one", "other", "distance"] (sp__write_branch K)) (G__write_jump : Gd P w K mg base CX0 3 "_write_jump" ["one", "distance", "nought"] (sp__write_jump K)) (G__write_whole : Gd P w K mg base CX0 2 "_write_whole" ["one", "other", "third"] (sp__write_whole K)) : Gd P w K mg base CX0 4 "encode" ["instruction"] (sp_encode K) := by
  have sc := sc_encode
  refine T.d_encode.ok sc len1 (fun _ _ _ _ _ _ us hl => match us, hl with | [_], _ => rfl) (fun f cdv A outer s H vs Q E hr h => ?_)
  obtain ⟨x0, rfl, h⟩ := h
  obtain ⟨p, i, rfl, hp, hi, h⟩ := h
  obtain ⟨esF, nF, kd_FORMS⟩ := T.k_FORMS
  have HB_write : ∀ f sp, Wr K f sp → Held P w K mg base CX0 3 f sp := by
    intro f sp hW
    cases hW with
    | number => exact held_of G__write_number (by omega) T.ga__write_number
    | branch => exact held_of G__write_branch (by omega) T.ga__write_branch
    | jump => exact held_of G__write_jump (by omega) T.ga__write_jump
    | whole => exact held_of G__write_whole (by omega) T.ga__write_whole
  obtain ⟨nm, a, b, c, fo, l, pa, fi, wf, spw, pq, Wy⟩ := way T hi
  rw [Wy.ins] at hp
  obtain ⟨u, hns⟩ := ent_in Wy.ent
  obtain ⟨fa, hkd, hfa⟩ := ent_kd T.k_FORMS Wy.ent
  refine ⟨_, (pss_cons (ps_if (PW.pt (pw_or (pt_not (pt_val (pe_callB call_isi (by rfl) T.n_isinstance (by decide +kernel) (pa_cons (pv 0) (pa_cons (pe_bltn (v := .ty "tuple") (u := .type "tuple") (by rfl) T.n_tuple (by decide +kernel) rfl) pa_nil))))) (pw_or (pt_cmpR op_ne (pe_callB call_len_seq (by rfl) T.n_len PySem.boot_len (pa_cons (pv 0) pa_nil)) pe_int (nomark _)) (pw_or1 (pt_not (pt_val (pe_callB call_isi (by rfl) T.n_isinstance (by decide +kernel) (pa_cons (pe_ix ix_tup (pv 0) pe_int (fun _ _ => rfl)) (pa_cons (pe_bltn (v := .ty "str") (u := .type "str") (by rfl) T.n_str (by decide +kernel) rfl) pa_nil))))))))) (pss_one ps_never) pss_nil)
      (pss_cons (ps_asg (pv 0) (pg_tup rfl (pgs_cons (pg_name (i := 3) sc.nd rfl (Or.inl rfl)) (pgs_cons (pg_name (i := 4) sc.nd rfl (Or.inl rfl)) (pgs_cons (pg_name (i := 5) sc.nd rfl (Or.inl rfl)) (pgs_cons (pg_name (i := 6) sc.nd rfl (Or.inl rfl)) pgs_nil))))))
      (pss_cons (ps_if (pt_cmpR (op_notIn_kd kd_FORMS) (pv 3) (pe_gref T.c_FORMS) rfl) (pss_one ps_never) pss_nil)
      (pss_cons (ps_asg (pe_ix ix_kdict (pe_gref T.c_FORMS) (pv 3) (fun _ _ => rfl)) (pg_tup rfl (pgs_cons (pg_name (i := 7) sc.nd rfl (Or.inl rfl)) (pgs_cons (pg_name (i := 8) sc.nd rfl (Or.inl rfl)) (pgs_cons (pg_name (i := 9) sc.nd rfl (Or.inl rfl)) (pgs_cons (pg_name (i := 10) sc.nd rfl (Or.inl rfl)) pgs_nil))))))
      (pss_cons (ps_set (i := 1) sc.nd rfl (Or.inl rfl) (pe_ix ix_kdict (pe_gref T.c_WRITERS) (pv 7) (fun _ _ => rfl)))
      (pss_cons (ps_set (i := 2) sc.nd rfl (Or.inl rfl) (Ru.pe_callV (i := 1) HB_write (hr.mono (by omega)) rfl (Or.inl rfl) pass0 (pa_cons (pv 4) (pa_cons (pv 5) (pa_cons (pv 6) pa_nil)))))
      (pss_cons (ps_if (pt_cmpR op_isN (pv 2) pe_non (nomark _)) (pss_one ps_never) pss_nil)
      (pss_one (ps_ret (pe_ifExp (pt_cmpR op_ne (pv 7) pe_str (nomark _)) (pe_op op_or (pe_op op_or (pe_op op_or (pv 2) (pv 8)) (pe_op op_shl (pv 9) pe_int)) (pe_op op_shl (pv 10) pe_int)) (pv 9))))))))))), ?_⟩
  refine ⟨_, rfl, _, _, .type "tuple", .type "tuple", true, rfl, .ty "tuple", .base (.tup hp), kit_ty (by decide +kernel), true, rfl, if_false_of rfl ?_⟩
  refine ⟨_, rfl, p, _, rfl, Or.inr (SqT.of hp), rfl, _, rfl, if_false_of rfl ?_⟩
  refine ⟨_, rfl, p, _, 0, V.str nm, rfl, rfl, SqT.of hp, at_of (j := 0) rfl rfl, _, _, .type "str", .type "str", true, rfl, .ty "str", .base (.str _), kit_ty (by decide +kernel), true, rfl, if_false_of rfl ?_⟩
  refine ⟨_, rfl, p, _, rfl, SqT.of hp, rfl, _, _, rfl, _, _, rfl, _, _, rfl, _, _, rfl, rfl, ?_⟩
  refine ⟨_, rfl, _, some u, rfl, rfl, hns, _, rfl, if_false_of rfl ?_⟩
  refine ⟨_, rfl, _, _, _, rfl, rfl, hkd, fa, _, rfl, hfa _, rfl, _, _, rfl, _, _, rfl, _, _, rfl, _, _, rfl, rfl, ?_⟩
  refine ⟨_, rfl, _, _, _, rfl, rfl, Wy.wr, ?_⟩
  refine ⟨wf, spw, rfl, Wy.W, _, rfl, _, rfl, _, rfl, Wy.run _ _ _ fun H1 s1 => ?_⟩
  refine ⟨_, rfl, rfl, _, rfl, if_false_of rfl ?_⟩
  refine ⟨_, rfl, rfl, _, rfl, ?_⟩
  rcases Wy.res with ⟨f1, q1, q2, q3, e⟩ | ⟨f1, e⟩
  · refine if_true_of ?_ ?_
    · show (!decide (V.str fo = V.str "whole")) = true
      rw [decide_eq_false (fun z => f1 (V.str.inj z))]; rfl
    refine ⟨_, rfl, _, rfl, _, _, rfl, rfl, _, rfl, _, _, rfl, rfl, pow_ok (by decide) (by decide) q2, _, _, rfl, rfl, _, rfl, _, _, rfl, rfl, pow_ok (by decide) (by decide) q3, _, _, rfl, rfl, ?_⟩
    have := h _ s1
    rw [e] at this
    exact this
  · refine if_false_of ?_ ?_
    · show (!decide (V.str fo = V.str "whole")) = false
      rw [f1]; rfl
    refine ⟨_, rfl, ?_⟩
    have := h _ s1
    rw [e] at this
    exact this
theorem sc_decode : FnScope ["word", "name", "form", "_", "part", "first", "found", "read"] ["word"] (defScope s_decode) := ⟨rfl, rfl, rfl, by decide +kernel, rfl, by decide +kernel, by decide +kernel⟩
theorem g_decode (T : Txt K mg w) (G__read_branch : Gd P w K mg base CX0 2 "_read_branch" ["word"] (sp__read_branch K)) (G__read_jump : Gd P w K mg base CX0 2 "_read_jump" ["word"] (sp__read_jump K)) : Gd P w K mg base CX0 3 "decode" ["word"] (sp_decode K) := by
  have sc := sc_decode
  refine T.d_decode.ok sc len1 (fun _ _ _ _ _ _ us hl => match us, hl with | [_], _ => rfl) (fun f cdv A outer s H vs Q E hr h => ?_)
  obtain ⟨x0, rfl, h⟩ := h
  obtain ⟨i, rfl, hi, ht, h⟩ := h
  obtain ⟨esB, nB, KB, ⟨aB, eB, qB⟩, aJ, eJ, qJ⟩ := T.k_BY
  have HB_read : ∀ f sp, Rr K f sp → Held P w K mg base CX0 2 f sp := by
    intro f sp hW
    cases hW with
    | branch => exact held_of G__read_branch (by omega) T.ga__read_branch
    | jump => exact held_of G__read_jump (by omega) T.ga__read_jump
  refine ⟨_, (pss_cons (ps_for PassesOwn.never rfl (pi_tup (Kg.pe_kget KB (pe_gref T.c_BY_LAST_BITS) (pe_op op_and (pv 0) pe_int) (pe_tup pa_nil) ⟨rfl, rfl, rfl, rfl⟩)) (pg_name (i := 1) sc.nd rfl (Or.inl rfl)) (pss_cons (ps_asg (pe_ix ix_kdict (pe_gref T.c_FORMS) (pv 1) (fun _ _ => rfl)) (pg_tup rfl (pgs_cons (pg_name (i := 2) sc.nd rfl (Or.inl rfl)) (pgs_cons (pg_name (i := 3) sc.nd rfl (Or.inl rfl)) (pgs_cons (pg_name (i := 4) sc.nd rfl (Or.inl rfl)) (pgs_cons (pg_name (i := 5) sc.nd rfl (Or.inl rfl)) pgs_nil))))))
      (pss_cons (ps_if (pt_cmpR op_eq (pv 2) pe_str (nomark _)) (pss_one (ps_set (i := 6) sc.nd rfl (Or.inl rfl) (pe_cmpR op_eq (pv 0) (pv 4) (nomark _)))) (pss_one (ps_if (pt_cmpR op_in_seq (pv 2) (pe_tup (pa_cons pe_str (pa_cons pe_str pa_nil))) rfl) (pss_one (ps_set (i := 6) sc.nd rfl (Or.inl rfl) pe_bl)) (pss_one (ps_set (i := 6) sc.nd rfl (Or.inl rfl) (pe_and (pe_cmpR op_eq (pe_op op_and (pe_op op_shr (pv 0) pe_int) pe_int) (pv 4) (nomark _)) (pe_one (pe_or (pe_cmpR op_notIn_seq (pv 2) (pe_tup (pa_cons pe_str (pa_cons pe_str pa_nil))) rfl) (pe_one (pe_cmpR op_eq (pe_op op_shr (pv 0) pe_int) (pv 5) (nomark _)))))))))))
      (pss_one (ps_if (pt_val (pv 6)) (pss_cons (ps_set (i := 7) sc.nd rfl (Or.inl rfl) (pe_ix ix_kdict (pe_gref T.c_READERS) (pv 2) (fun _ _ => rfl)))
      (pss_one (ps_ret (pe_op op_catT (pe_tup (pa_cons (pv 1) pa_nil)) (Ru.pe_callV (i := 7) HB_read (hr.mono (by omega)) rfl (Or.inl rfl) pass0 (pa_cons (pv 0) pa_nil)))))) pss_nil)))))
      (pss_one (ps_ret pe_non))), ?_⟩
  cases i with
  | addi => exact ht.elim
  | ebreak => exact ht.elim
  | br o k =>
    obtain ⟨ho, h1, h2⟩ := hi
    have G := goodB ho h1 h2
    obtain ⟨r0, r1⟩ := wB_range ho (4 * k)
    refine ⟨rfl, _, rfl, _, _, rfl, rfl, (by show 0 ≤ sizeLine; decide), fun e0 he0 => ⟨99, _, .ref aB, congrArg V.int G.last, eB, rfl, aB, rfl, ⟨_, qB _⟩, ?_⟩⟩
    have hW : insW (Ins.br o k) = wB o (4 * k) := rfl
    rw [hW]
    refine for_tup (a := aB) (xs := opns.map V.str) (fun i σ H' => i ≤ o ∧ Same H H' ∧ ∃ v1 v2 v3 v4 v5 v6 : Option V, σ = [some (.int (wB o (4 * k))), v1, v2, v3, v4, v5, v6, none]) ⟨by omega, same_new he0, _, _, _, _, _, _, rfl⟩ (fun i σ H' _ _ => qB _) ?_ ?_
    · rintro i x σ H' hx ⟨hio, sH, v1, v2, v3, v4, v5, v6, rfl⟩
      obtain ⟨hi6, rfl⟩ : i < 6 ∧ x = V.str (opn i) := by
        match i, hx with
        | 0, hx | 1, hx | 2, hx | 3, hx | 4, hx | 5, hx => injection hx with hx; exact ⟨by omega, hx.symm⟩
        | i + 6, hx => simp [opns] at hx
      obtain ⟨fa, hkd, hfa⟩ := ent_kd T.k_FORMS (T.f_br i hi6)
      refine ⟨_, rfl, _, _, _, rfl, rfl, hkd, fa, _, rfl, hfa _, rfl, _, _, rfl, _, _, rfl, _, _, rfl, _, _, rfl, rfl, ?_⟩
      refine ⟨_, rfl, rfl, _, rfl, if_false_of rfl ?_⟩
      refine ⟨_, rfl, (by show 2 ≤ sizeLine; decide), fun t1 ht1 => ⟨t1, _, rfl, Or.inr (SqT.of upd_same), rfl, rfl, _, rfl, if_false_of rfl ?_⟩⟩
      refine ⟨_, rfl, _, _, rfl, rfl, (by dsimp only; decide), _, _, rfl, rfl, _, rfl, rfl, _, rfl, ?_⟩
      by_cases c : i = o
      · subst c
        have e : decide (V.int (bitAnd (wB i (4 * k) / 2 ^ (12 : Int).toNat) 7) = V.int (prt i)) = true := by
          rw [show bitAnd (wB i (4 * k) / 2 ^ (12 : Int).toNat) 7 = prt i from G.part]; exact decide_eq_true rfl
        refine if_true_of e ?_
        refine ⟨_, rfl, (by show 2 ≤ sizeLine; decide), fun t2 ht2 => ⟨t2, _, rfl, Or.inr (SqT.of upd_same), rfl, rfl, true, rfl, if_true_of rfl ?_⟩⟩
        refine ⟨_, rfl, true, rfl, if_true_of rfl ?_⟩
        refine ⟨_, rfl, _, _, _, rfl, rfl, T.r_branch, ?_⟩
        refine ⟨_, rfl, (by show 1 ≤ sizeLine; decide), fun t3 ht3 => ⟨_, _, rfl, Rr.branch, _, rfl, _, rfl, _, rfl, r0, r1, fun p hp => ?_⟩⟩
        refine ⟨t3, p, _, _, rfl, rfl, SqT.of (by rw [upd_ne (ne_of_none upd_same hp)]; exact upd_same), SqT.of upd_same, (fun z => by cases z), (by show 4 ≤ sizeLine; decide), (fun z => by cases z), fun _ q hq => ?_⟩
        refine h _ q (Same.tr sH (Same.tr (same_new ht1) (Same.tr (same_new ht2) (Same.tr (same_new ht3) (Same.tr (same_new hp) (same_new hq)))))) ?_
        rw [upd_same]
        show some (HO.tup [.str (opn i), .int (bitAnd (wB i (4 * k) / 2 ^ 15) 31), .int (bitAnd (wB i (4 * k) / 2 ^ 20) 31), .int (sgn (rB (wB i (4 * k))) 4096)]) = _
        rw [G.one, G.other, G.far]
        rfl
      · have e : decide (V.int (bitAnd (wB o (4 * k) / 2 ^ (12 : Int).toNat) 7) = V.int (prt i)) = false := by
          rw [show bitAnd (wB o (4 * k) / 2 ^ (12 : Int).toNat) 7 = prt o from G.part]
          exact decide_eq_false (fun z => prt_ne o ho i hi6 (fun q => c q.symm) (V.int.inj z))
        refine if_false_of e ?_
        refine ⟨_, rfl, false, rfl, if_false_of rfl ?_⟩
        exact ⟨by omega, Same.tr sH (same_new ht1), _, _, _, _, _, _, rfl⟩
    · rintro σ H' ⟨hio, _⟩
      exact absurd hio (by show ¬ (6 ≤ o); omega)
  | jal k =>
    obtain ⟨h1, h2⟩ := hi
    have G := goodJ h1 h2
    obtain ⟨r0, r1⟩ := wJ_range (4 * k)
    refine ⟨rfl, _, rfl, _, _, rfl, rfl, (by show 0 ≤ sizeLine; decide), fun e0 he0 => ⟨111, _, .ref aJ, congrArg V.int G.last, eJ, rfl, aJ, rfl, ⟨_, qJ _⟩, ?_⟩⟩
    have hW : insW (Ins.jal k) = wJ (4 * k) := rfl
    rw [hW]
    refine for_tup (a := aJ) (xs := [.str "jal"]) (fun i σ H' => i = 0 ∧ Same H H' ∧ ∃ v1 v2 v3 v4 v5 v6 : Option V, σ = [some (.int (wJ (4 * k))), v1, v2, v3, v4, v5, v6, none]) ⟨rfl, same_new he0, _, _, _, _, _, _, rfl⟩ (fun i σ H' _ _ => qJ _) ?_ ?_
    · rintro i x σ H' hx ⟨rfl, sH, v1, v2, v3, v4, v5, v6, rfl⟩
      injection hx with hx
      subst hx
      obtain ⟨fa, hkd, hfa⟩ := ent_kd T.k_FORMS T.f_jal
      refine ⟨_, rfl, _, _, _, rfl, rfl, hkd, fa, _, rfl, hfa _, rfl, _, _, rfl, _, _, rfl, _, _, rfl, _, _, rfl, rfl, ?_⟩
      refine ⟨_, rfl, rfl, _, rfl, if_false_of rfl ?_⟩
      refine ⟨_, rfl, (by show 2 ≤ sizeLine; decide), fun t1 ht1 => ⟨t1, _, rfl, Or.inr (SqT.of upd_same), rfl, rfl, _, rfl, if_true_of rfl ?_⟩⟩
      refine ⟨_, rfl, true, rfl, if_true_of rfl ?_⟩
      refine ⟨_, rfl, _, _, _, rfl, rfl, T.r_jump, ?_⟩
      refine ⟨_, rfl, (by show 1 ≤ sizeLine; decide), fun t3 ht3 => ⟨_, _, rfl, Rr.jump, _, rfl, _, rfl, _, rfl, r0, r1, fun p hp => ?_⟩⟩
      refine ⟨t3, p, _, _, rfl, rfl, SqT.of (by rw [upd_ne (ne_of_none upd_same hp)]; exact upd_same), SqT.of upd_same, (fun z => by cases z), (by show 4 ≤ sizeLine; decide), (fun z => by cases z), fun _ q hq => ?_⟩
      refine h _ q (Same.tr sH (Same.tr (same_new ht1) (Same.tr (same_new ht3) (Same.tr (same_new hp) (same_new hq))))) ?_
      rw [upd_same]
      show some (HO.tup [.str "jal", .int (bitAnd (wJ (4 * k) / 2 ^ 7) 31), .int (sgn (rJ (wJ (4 * k))) 1048576), .int 0]) = _
      rw [G.one, G.far]
      rfl
    · rintro σ H' ⟨hio, _⟩
      exact absurd hio (by show ¬ (1 = 0); omega)
end
end K70

namespace K70
open PySem PyProof.Rows L2 My Ru
open Builtin (bitAnd bitOr)
abbrev aF (w p q t b : Addr) : List (Str × V) := [("words", .ref w), ("places", .ref p), ("patches", .ref q), ("traps", .ref t), ("labels", .ref b)]
abbrev bF1 (w : Addr) : List (Str × V) := [("words", .ref w)]
abbrev bF2 (w p : Addr) : List (Str × V) := [("words", .ref w), ("places", .ref p)]
abbrev bF3 (w p q : Addr) : List (Str × V) := [("words", .ref w), ("places", .ref p), ("patches", .ref q)]
abbrev bF4 (w p q t : Addr) : List (Str × V) := [("words", .ref w), ("places", .ref p), ("patches", .ref q), ("traps", .ref t)]
theorem aF1 (w : Addr) : putF "words" (.ref w) [] = bF1 w := by kernel_rfl
theorem aF2 (w p : Addr) : putF "places" (.ref p) (bF1 w) = bF2 w p := by kernel_rfl
theorem aF3 (w p q : Addr) : putF "patches" (.ref q) (bF2 w p) = bF3 w p q := by kernel_rfl
theorem aF4 (w p q t : Addr) : putF "traps" (.ref t) (bF3 w p q) = bF4 w p q t := by kernel_rfl
theorem aF5 (w p q t b : Addr) : putF "labels" (.ref b) (bF4 w p q t) = aF w p q t b := by kernel_rfl
theorem aF6 (w p q t b c : Addr) : putF "labels" (.ref c) (aF w p q t b) = aF w p q t c := by kernel_rfl
theorem aFw (w p q t b : Addr) : (aF w p q t b).lookup ("words" : Str) = some (.ref w) := by kernel_rfl
theorem aFp (w p q t b : Addr) : (aF w p q t b).lookup ("places" : Str) = some (.ref p) := by kernel_rfl
theorem aFq (w p q t b : Addr) : (aF w p q t b).lookup ("patches" : Str) = some (.ref q) := by kernel_rfl
theorem aFt (w p q t b : Addr) : (aF w p q t b).lookup ("traps" : Str) = some (.ref t) := by kernel_rfl
theorem aFb (w p q t b : Addr) : (aF w p q t b).lookup ("labels" : Str) = some (.ref b) := by kernel_rfl
theorem aFm (w p q t b : Addr) : (aF w p q t b).lookup ("word" : Str) = none := by kernel_rfl
structure Asm (K : PySem.W.Frag) (H : Hp) (m w p q t b : Addr) (ws : List Int) (tr : List V) : Prop where
  self : ∃ dx, H m = some (.ins (CA K) dx (aF w p q t b))
  wsL : H w = some (.lst (ws.map V.int))
  plL : ∃ ps, H p = some (.lst ps) ∧ ps.length = ws.length
  paL : H q = some (.lst [])
  trL : H t = some (.lst tr)
  wp : w ≠ p
  wq : w ≠ q
  wt : w ≠ t
  pq : p ≠ q
  pt : p ≠ t
  qt : q ≠ t
theorem Asm.keep {K : PySem.W.Frag} {H H' : Hp} {m w p q t b : Addr} {ws : List Int} {tr : List V} {as : List Addr} (x : Asm K H m w p q t b ws tr) (h : ButL as H H') (n : ∀ a, a ∈ as → a ≠ m ∧ a ≠ w ∧ a ≠ p ∧ a ≠ q ∧ a ≠ t) : Asm K H' m w p q t b ws tr := by
  obtain ⟨⟨dx, a⟩, c, ⟨ps, d, e⟩, f, g, r1, r2, r3, r4, r5, r6⟩ := x
  have k : ∀ {y : Addr} {o : HO}, H y = some o → (y = m ∨ y = w ∨ y = p ∨ y = q ∨ y = t) → H' y = some o := fun {y o} e z => h _ _ e fun i => by
    obtain ⟨n1, n2, n3, n4, n5⟩ := n y i
    rcases z with z | z | z | z | z
    · exact n1 z
    · exact n2 z
    · exact n3 z
    · exact n4 z
    · exact n5 z
  exact ⟨⟨dx, k a (by simp)⟩, k c (by simp), ⟨ps, k d (by simp), e⟩, k f (by simp), k g (by simp), r1, r2, r3, r4, r5, r6⟩
theorem Asm.same {K : PySem.W.Frag} {H H' : Hp} {m w p q t b : Addr} {ws : List Int} {tr : List V} (x : Asm K H m w p q t b ws tr) (h : Same H H') : Asm K H' m w p q t b ws tr := x.keep (as := []) (ButL.same h) (fun a z => by cases z)
def sp_Assembled___init__ (K : PySem.W.Frag) : Sp := sp1 fun x H Q _ => ∃ (m dx : Addr), x = .ref m ∧ H m = some (.ins (CA K) dx []) ∧ ∀ (H' : Hp) (w p q t b : Addr), ButL [m] H H' → Asm K H' m w p q t b [] [] → H' b = some (.dK []) → H w = none → H p = none → H t = none → Q .non H'
def sp_Assembled_word (K : PySem.W.Frag) : Sp := sp3 fun x y z H Q _ => ∃ (m w p q t b a : Addr) (ws : List Int) (tr : List V) (i : Ins), x = .ref m ∧ y = .ref a ∧ Asm K H m w p q t b ws tr ∧ H a = some (.tup (insV i)) ∧ insOk i ∧ ws.length ≤ 100000 ∧
  ∀ H' : Hp, ButL [w, p] H H' → Asm K H' m w p q t b (ws ++ [insW i]) tr → Q .non H'
def sz0 : List Ln → List Nat
  | [] => []
  | l :: r => size0 l r :: sz0 r
theorem szs_none : ∀ (ls : List Ln) (i : Nat), szs (fun _ => false) i ls = sz0 ls
  | [], _ => rfl
  | l :: r, i => by
    unfold szs sz0
    rw [szs_none r, Bool.and_false]
    rfl
abbrev nats (zs : List Nat) : List V := zs.map fun z => V.int ((z : Nat) : Int)
theorem nats_snoc (xs : List Nat) (n : Nat) : nats (xs ++ [n]) = nats xs ++ [.int (n : Int)] := by
  show List.map _ (xs ++ [n]) = _
  rw [List.map_append]; rfl
def sp__sizes_of (K : PySem.W.Frag) : Sp := sp1 fun x H Q _ => ∃ (l : Addr) (ls : List Ln), x = .ref l ∧ Lines H l ls ∧ ∀ (H' : Hp) (z : Addr), Same H H' → H z = none → H' z = some (.lst (nats (sz0 ls))) → Q (.ref z) H'
def sp__starts_of (K : PySem.W.Frag) : Sp := sp2 fun x y H Q _ => ∃ (l z : Addr) (ls : List Ln) (zs : List Nat), x = .ref l ∧ y = .ref z ∧ Lines H l ls ∧ H z = some (.lst (nats zs)) ∧ zs.length = ls.length ∧ (∀ s ∈ zs, s ≤ 2) ∧
  ∀ (H' : Hp) (t a b : Addr), Same H H' → H' t = some (.tup [.ref a, .ref b]) → H a = none → H' a = some (.lst (nats (starts 0 zs))) → H b = none → H' b = some (.dK (labs 0 ls zs [])) → Q (.ref t) H'
theorem same_put {H H' : Hp} {s : Addr} {o : HO} (h : Same H H') (n : H s = none) : Same H (upd H' s o) := fun x u e => by
  rw [upd_ne (ne_of_none e n)]; exact h x u e
theorem kind_lab {l : Ln} : decide (V.str (kindS l) = V.str "label") = match l with
    | .lab _ => true
    | _ => false := by cases l <;> rfl
theorem kind_jmp {l : Ln} : decide (V.str (kindS l) = V.str "jump") = match l with
    | .jmp _ => true
    | _ => false := by cases l <;> rfl
theorem kind_br {l : Ln} : decide (V.str (kindS l) = V.str "branch") = isBr l := by cases l <;> rfl
theorem at_refs {as : List Addr} {i : Nat} {a : Addr} (h : as[i]? = some a) : (as.map V.ref)[i]? = some (.ref a) := by rw [List.getElem?_map, h]; rfl
theorem ints_le {zs : List Nat} (h : zs.length ≤ 6000) : (nats zs).length < sizeLine := by rw [List.length_map]; exact tup_lt (by omega)
theorem labs_len : ∀ (ls : List Ln) (zs : List Nat) (s : Nat) (acc : List (Key × V)), (labs s ls zs acc).length ≤ acc.length + ls.length
  | [], _, _, _ => by unfold labs; simp
  | l :: ls, [], _, _ => by unfold labs; simp
  | l :: ls, z :: zs, s, acc => by
    unfold labs
    refine Nat.le_trans (labs_len ls zs (s + z) _) ?_
    cases l with
    | lab n =>
      have := length_putK acc (.inl (n : Int)) (.int (s : Int))
      simp only [List.length_cons]
      show (putK acc (.inl (n : Int)) (.int (s : Int))).length + ls.length ≤ _
      omega
    | _ => simp only [List.length_cons]; omega
theorem labs_snoc : ∀ (xs : List Ln) (ys : List Nat) (l : Ln) (z s : Nat) (acc : List (Key × V)), xs.length = ys.length → labs s (xs ++ [l]) (ys ++ [z]) acc = match l with
    | .lab n => putK (labs s xs ys acc) (.inl (n : Int)) (.int ((s + ys.sum : Nat) : Int))
    | _ => labs s xs ys acc
  | [], [], l, z, s, acc, _ => by
    simp only [List.nil_append, labs, List.sum_nil, Nat.add_zero]
    all_goals (cases l <;> rfl)
  | x :: xs, y :: ys, l, z, s, acc, h => by
    simp only [List.cons_append, labs]
    rw [labs_snoc xs ys l z (s + y) _ (by simpa using h)]
    cases l <;> simp only [List.sum_cons, Nat.add_assoc]
  | [], _ :: _, _, _, _, _, h => by simp at h
  | _ :: _, [], _, _, _, _, h => by simp at h
theorem take_succ {α : Type} {xs : List α} {i : Nat} {x : α} (h : xs[i]? = some x) : xs.take (i + 1) = xs.take i ++ [x] := by
  rw [List.take_add_one, h]; rfl
theorem starts_take {zs : List Nat} {i : Nat} (h : i < zs.length) : (starts 0 zs).take (i + 1) = (starts 0 zs).take i ++ [(zs.take i).sum] := by
  refine take_succ ?_
  rw [starts_at zs 0 i h, Nat.zero_add]
theorem nat_get {zs : List Nat} {i : Nat} {y : V} (h : (nats zs)[i]? = some y) : ∃ n, zs[i]? = some n ∧ y = .int (n : Int) := by
  rw [List.getElem?_map] at h
  cases e : zs[i]? with
  | none => rw [e] at h; cases h
  | some n => rw [e] at h; injection h with h; exact ⟨n, rfl, h.symm⟩
theorem ref_get {as : List Addr} {i : Nat} {y : V} (h : (as.map V.ref)[i]? = some y) : ∃ a, as[i]? = some a ∧ y = .ref a := by
  rw [List.getElem?_map] at h
  cases e : as[i]? with
  | none => rw [e] at h; cases h
  | some n => rw [e] at h; injection h with h; exact ⟨n, rfl, h.symm⟩
theorem Lns.at {H : Hp} {as : List Addr} {ls : List Ln} (h : Lns H as ls) {i : Nat} {a : Addr} (e : as[i]? = some a) : ∃ l, ls[i]? = some l ∧ LnAt H a l := by
  have hi : i < as.length := by
    by_cases c : i < as.length
    · exact c
    · rw [List.getElem?_eq_none (by omega)] at e; cases e
  rw [h.len] at hi
  obtain ⟨a', e', q⟩ := h.get i ls[i] (List.getElem?_eq_getElem hi)
  rw [e] at e'
  injection e' with e'
  subst e'
  exact ⟨_, List.getElem?_eq_getElem hi, q⟩
section
variable {P : Program} {w : World} {K : PySem.W.Frag} {mg : Str → Option Value} {base : Heap}
theorem sc_Assembled___init__ : FnScope ["self"] ["self"] (defScope s_Assembled___init__) := ⟨rfl, rfl, rfl, by decide +kernel, rfl, by decide +kernel, by decide +kernel⟩
theorem g_Assembled___init__ (T : Txt K mg w)  : Gm P w K mg base CX0 1 (He.ga K "Assembled") "__init__" ["self"] (sp_Assembled___init__ K) := by
  have sc := sc_Assembled___init__
  refine T.d_Assembled___init__.ok sc len1 (fun _ _ _ _ _ _ us hl => match us, hl with | [_], _ => rfl) (fun f cdv A outer s H vs Q E hr h => ?_)
  obtain ⟨x0, rfl, h⟩ := h
  obtain ⟨m, dx, rfl, hm, h⟩ := h
  refine ⟨_, (pss_cons (ps_fld (pv 0) (pe_lst pa_nil) rfl)
      (pss_cons (ps_fld (pv 0) (pe_lst pa_nil) rfl)
      (pss_cons (ps_fld (pv 0) (pe_lst pa_nil) rfl)
      (pss_cons (ps_fld (pv 0) (pe_lst pa_nil) rfl)
      (pss_one (ps_fld (pv 0) pe_dnewK rfl)))))), ?_⟩
  refine ⟨by show 0 ≤ sizeLine; decide, fun w' hw => ?_⟩
  have mw : m ≠ w' := ne_of_none hm hw
  refine ⟨_, rfl, m, CA K, dx, [], rfl, (by rw [upd_ne mw]; exact hm), T.cl_Assembled.c, T.na_Assembled_words, (by show 0 < 1000; decide), ?_⟩
  rw [aF1]
  refine ⟨by show 0 ≤ sizeLine; decide, fun p hp => ?_⟩
  have mp : m ≠ p := ne_of_none upd_same hp
  have wp : w' ≠ p := ne_of_none (by rw [upd_ne mw.symm]; exact upd_same) hp
  refine ⟨_, rfl, m, CA K, dx, bF1 w', rfl, (by rw [upd_ne mp]; exact upd_same), T.cl_Assembled.c, T.na_Assembled_places, (by show 1 < 1000; decide), ?_⟩
  rw [aF2]
  refine ⟨by show 0 ≤ sizeLine; decide, fun q hq => ?_⟩
  have mq : m ≠ q := ne_of_none upd_same hq
  have pq : p ≠ q := ne_of_none (by rw [upd_ne mp.symm]; exact upd_same) hq
  have wq : w' ≠ q := ne_of_none (by rw [upd_ne mw.symm, upd_ne wp, upd_ne mw.symm]; exact upd_same) hq
  refine ⟨_, rfl, m, CA K, dx, bF2 w' p, rfl, (by rw [upd_ne mq]; exact upd_same), T.cl_Assembled.c, T.na_Assembled_patches, (by show 2 < 1000; decide), ?_⟩
  rw [aF3]
  refine ⟨by show 0 ≤ sizeLine; decide, fun t ht => ?_⟩
  have mt : m ≠ t := ne_of_none upd_same ht
  have qt : q ≠ t := ne_of_none (by rw [upd_ne mq.symm]; exact upd_same) ht
  have pt : p ≠ t := ne_of_none (by rw [upd_ne mp.symm, upd_ne pq, upd_ne mp.symm]; exact upd_same) ht
  have wt : w' ≠ t := ne_of_none (by rw [upd_ne mw.symm, upd_ne wq, upd_ne mw.symm, upd_ne wp, upd_ne mw.symm]; exact upd_same) ht
  refine ⟨_, rfl, m, CA K, dx, bF3 w' p q, rfl, (by rw [upd_ne mt]; exact upd_same), T.cl_Assembled.c, T.na_Assembled_traps, (by show 3 < 1000; decide), ?_⟩
  rw [aF4]
  intro b hb
  have mb : m ≠ b := ne_of_none upd_same hb
  have tb : t ≠ b := ne_of_none (by rw [upd_ne mt.symm]; exact upd_same) hb
  have qb : q ≠ b := ne_of_none (by rw [upd_ne mq.symm, upd_ne qt, upd_ne mq.symm]; exact upd_same) hb
  have pb : p ≠ b := ne_of_none (by rw [upd_ne mp.symm, upd_ne pt, upd_ne mp.symm, upd_ne pq, upd_ne mp.symm]; exact upd_same) hb
  have wb : w' ≠ b := ne_of_none (by rw [upd_ne mw.symm, upd_ne wt, upd_ne mw.symm, upd_ne wq, upd_ne mw.symm, upd_ne wp, upd_ne mw.symm]; exact upd_same) hb
  refine ⟨_, rfl, m, CA K, dx, bF4 w' p q t, rfl, (by rw [upd_ne mb]; exact upd_same), T.cl_Assembled.c, T.na_Assembled_labels, (by show 4 < 1000; decide), ?_⟩
  rw [aF5]
  have k1 : ∀ {H0 : Hp} {z : Addr} {o : HO}, H0 z = none → ButL [m] H0 (upd H0 z o) := fun hz x o e _ => same_new hz x o e
  have k2 : ∀ {H0 : Hp} {o : HO}, ButL [m] H0 (upd H0 m o) := ButL.put (by simp)
  refine h _ w' p q t b ?_ ⟨⟨dx, upd_same⟩, ?_, ⟨[], ?_, rfl⟩, ?_, ?_, wp, wq, wt, pq, pt, qt⟩ ?_ hw (by rw [upd_ne mp.symm, upd_ne wp.symm] at hp; exact hp) (by rw [upd_ne mt.symm, upd_ne qt.symm, upd_ne mt.symm, upd_ne pt.symm, upd_ne mt.symm, upd_ne wt.symm] at ht; exact ht)
  · exact ((k1 hw).trans k2).trans (((k1 hp).trans k2).trans (((k1 hq).trans k2).trans (((k1 ht).trans k2).trans ((k1 hb).trans k2))))
  · rw [upd_ne mw.symm, upd_ne wb, upd_ne mw.symm, upd_ne wt, upd_ne mw.symm, upd_ne wq, upd_ne mw.symm, upd_ne wp, upd_ne mw.symm]; exact upd_same
  · rw [upd_ne mp.symm, upd_ne pb, upd_ne mp.symm, upd_ne pt, upd_ne mp.symm, upd_ne pq, upd_ne mp.symm]; exact upd_same
  · rw [upd_ne mq.symm, upd_ne qb, upd_ne mq.symm, upd_ne qt, upd_ne mq.symm]; exact upd_same
  · rw [upd_ne mt.symm, upd_ne tb, upd_ne mt.symm]; exact upd_same
  · rw [upd_ne mb.symm]; exact upd_same
theorem sc_Assembled_word : FnScope ["self", "instruction", "place"] ["self", "instruction", "place"] (defScope s_Assembled_word) := ⟨rfl, rfl, rfl, by decide +kernel, rfl, by decide +kernel, by decide +kernel⟩
theorem g_Assembled_word (T : Txt K mg w) (G_encode : Gd P w K mg base CX0 4 "encode" ["instruction"] (sp_encode K)) : Gm P w K mg base CX0 5 (He.ga K "Assembled") "word" ["self", "instruction", "place"] (sp_Assembled_word K) := by
  have sc := sc_Assembled_word
  refine T.d_Assembled_word.ok sc len3 (fun _ _ _ _ _ _ us hl => match us, hl with | [_, _, _], _ => rfl) (fun f cdv A outer s H vs Q E hr h => ?_)
  obtain ⟨x0, x1, x2, rfl, h⟩ := h
  obtain ⟨m, w', p, q, t, b, a, ws, tr, i, rfl, rfl, A0, ha, hi, hl, h⟩ := h
  refine ⟨_, (pss_cons (ps_expr (pe_bm PySem.F.plainAttrs_list PySem.F.slot_list_append PySem.F.type_list_append mt_append (pe_fld (pv 0) rfl) (pa_cons (pe_g G_encode (hr.mono (by omega)) pass0 (pa_cons (pv 1) pa_nil)) pa_nil)))
      (pss_one (ps_expr (pe_bm PySem.F.plainAttrs_list PySem.F.slot_list_append PySem.F.type_list_append mt_append (pe_fld (pv 0) rfl) (pa_cons (pv 2) pa_nil))))), ?_⟩
  obtain ⟨⟨dx, hm⟩, hw, ⟨ps, hp, hpl⟩, hq, ht, wp, wq, wt, pq, pt, qt⟩ := A0
  have mw : m ≠ w' := ne_of hm hw (by intro z; cases z)
  have mp : m ≠ p := ne_of hm hp (by intro z; cases z)
  refine ⟨_, rfl, m, CA K, dx, _, _, rfl, hm, T.cl_Assembled.c, T.na_Assembled_words, aFw _ _ _ _ _, ty_lst hw, _, rfl, _, rfl, a, i, rfl, ha, hi, fun H1 s1 => ?_⟩
  refine ⟨w', _, _, rfl, rfl, s1 _ _ hw, (by rw [List.length_map]; exact tup_lt (by omega)), ?_⟩
  refine ⟨_, rfl, m, CA K, dx, _, _, rfl, (by rw [upd_ne mw]; exact s1 _ _ hm), T.cl_Assembled.c, T.na_Assembled_places, aFp _ _ _ _ _, ty_lst (by rw [upd_ne wp.symm]; exact s1 _ _ hp), _, rfl, ?_⟩
  refine ⟨p, _, _, rfl, rfl, (by rw [upd_ne wp.symm]; exact s1 _ _ hp), (by rw [hpl]; exact tup_lt (by omega)), ?_⟩
  refine h _ (fun x o e n => ?_) ⟨⟨dx, by rw [upd_ne mp, upd_ne mw]; exact s1 _ _ hm⟩, ?_, ⟨_, upd_same, by simp [hpl]⟩, ?_, ?_, wp, wq, wt, pq, pt, qt⟩
  · rw [upd_ne (fun z => n (by simp [z])), upd_ne (fun z => n (by simp [z]))]; exact s1 _ _ e
  · rw [upd_ne wp, upd_same, List.map_append]; rfl
  · rw [upd_ne pq.symm, upd_ne wq.symm]; exact s1 _ _ hq
  · rw [upd_ne pt.symm, upd_ne wt.symm]; exact s1 _ _ ht
theorem sc__sizes_of : FnScope ["lines", "sizes", "behind", "line"] ["lines"] (defScope s__sizes_of) := ⟨rfl, rfl, rfl, by decide +kernel, rfl, by decide +kernel, by decide +kernel⟩
theorem g__sizes_of (T : Txt K mg w)  : Gd P w K mg base CX0 1 "_sizes_of" ["lines"] (sp__sizes_of K) := by
  have sc := sc__sizes_of
  refine T.d__sizes_of.ok sc len1 (fun _ _ _ _ _ _ us hl => match us, hl with | [_], _ => rfl) (fun f cdv A outer s H vs Q E hr h => ?_)
  obtain ⟨x0, rfl, h⟩ := h
  obtain ⟨l, ls, rfl, L, h⟩ := h
  refine ⟨_, (pss_cons (ps_set (i := 1) sc.nd rfl (Or.inl rfl) (pe_lst pa_nil))
      (pss_cons (ps_set (i := 2) sc.nd rfl (Or.inl rfl) pe_dnewK)
      (pss_cons (ps_for PassesOwn.never rfl (pi_reversed (by rfl) T.n_reversed (pa_cons (pv 0) pa_nil)) (pg_name (i := 3) sc.nd rfl (Or.inl rfl)) (pss_one (ps_if (pt_cmpR op_eq (pe_ix ix_tup (pv 3) pe_int (fun _ _ => rfl)) pe_str (nomark _)) (pss_cons (ps_dput (hu_of hr) (pv 2) (pe_ix ix_tup (pv 3) pe_int (fun _ _ => rfl)) pe_bl rfl)
      (pss_one (ps_expr (pe_bm PySem.F.plainAttrs_list PySem.F.slot_list_append PySem.F.type_list_append mt_append (pv 1) (pa_cons pe_int pa_nil))))) (pss_cons (ps_expr (pe_bm PySem.F.plainAttrs_list PySem.F.slot_list_append PySem.F.type_list_append mt_append (pv 1) (pa_cons (pe_ifExp (PW.pt (pw_and (pt_cmpR op_eq (pe_ix ix_tup (pv 3) pe_int (fun _ _ => rfl)) pe_str (nomark _)) (pw_and1 (pt_cmp (pc_din (hu_of hr) (pe_ix ix_tup (pv 3) pe_int (fun _ _ => rfl)) (pv 2)))))) pe_int pe_int) pa_nil)))
      (pss_one (ps_set (i := 2) sc.nd rfl (Or.inl rfl) pe_dnewK))))))
      (pss_cons (ps_expr (pe_bm0 PySem.F.plainAttrs_list PySem.F.slot_list_reverse PySem.F.type_list_reverse mt_reverse (pv 1)))
      (pss_one (ps_ret (pv 1))))))), ?_⟩
  obtain ⟨as, hl, hL, hlen⟩ := L
  have hal := hL.len
  refine ⟨by show 0 ≤ sizeLine; decide, fun s0 hs0 => ?_⟩
  intro b0 hb0
  have sb : s0 ≠ b0 := ne_of_none upd_same hb0
  have nb0 : H b0 = none := by rw [upd_ne sb.symm] at hb0; exact hb0
  refine ⟨_, rfl, l, as.map V.ref, rfl, SqL.of (by rw [upd_ne (ne_of_none hl nb0), upd_ne (ne_of_none hl hs0)]; exact hl), ?_⟩
  refine for_it (walk_rev (K := K) (a := l) (xs := as.map V.ref)) (fun i σ H' => ∃ (bd : Addr) (v : Option V) (kvs : List (Key × V)), σ = [some (.ref l), some (.ref s0), some (.ref bd), v] ∧ Same H H' ∧ H bd = none ∧ s0 ≠ bd ∧
      H' s0 = some (.lst (nats (sz0 (ls.drop (ls.length - i))).reverse)) ∧ H' bd = some (.dK kvs) ∧ kvs.length ≤ i ∧ ∀ g : Nat, (valV kvs (.inl (g : Int))).isSome = decide (g ∈ behind (ls.drop (ls.length - i)))) ?_ ?_ ?_ ?_
  · refine ⟨b0, none, [], rfl, same_put (same_new hs0) nb0, nb0, sb, ?_, upd_same, Nat.le_refl _, fun g => ?_⟩
    · rw [upd_ne sb, upd_same, Nat.sub_zero, List.drop_length]; rfl
    · rw [Nat.sub_zero, List.drop_length]; rfl
  · rintro i σ H' hi ⟨bd, v, kvs, rfl, sH, _⟩
    exact SqL.of (sH _ _ hl)
  · rintro i x σ H' H'' hi ⟨bd, v, kvs, rfl, sH, nbd, sbd, h1, h2, h3, h4⟩ ⟨rfl, hx⟩
    rw [List.length_map] at hi hx
    rw [hal] at hi hx
    obtain ⟨a, ha, rfl⟩ := ref_get hx
    obtain ⟨ln, hln, hat⟩ := hL.at ha
    have hat' := hat.keep (as := []) (ButL.same sH) (fun a z => by cases z)
    have ed : ls.drop (ls.length - (i + 1)) = ln :: ls.drop (ls.length - i) := by
      have e1 : ls.length - (i + 1) = ls.length - 1 - i := by omega
      have e2 : ls.length - i = ls.length - 1 - i + 1 := by omega
      have hlt : ls.length - 1 - i < ls.length := by omega
      rw [e1, e2, List.drop_eq_getElem_cons hlt]
      rw [List.getElem?_eq_getElem hlt] at hln
      injection hln with hln
      rw [hln]
    have hlen2 : (nats (sz0 (ls.drop (ls.length - i))).reverse).length < sizeLine := by
      have : ∀ xs : List Ln, (sz0 xs).length = xs.length := fun xs => by rw [← szs_none xs 0]; exact szs_len _ _ _
      rw [List.length_map, List.length_reverse, this, List.length_drop]
      exact tup_lt (by omega)
    rw [ed]
    generalize ls.drop (ls.length - i) = r at *
    obtain ⟨xs', hf⟩ := hat'.first
    refine ⟨_, rfl, a, _, 0, _, rfl, rfl, SqT.of hf, at_of (j := 0) rfl rfl, rfl, _, rfl, ?_⟩
    cases ln with
    | lab n =>
      refine if_true_of rfl ?_
      refine ⟨_, rfl, _, rfl, a, _, 1, _, rfl, rfl, SqT.of hat', at_of (j := 1) rfl rfl, bd, _, rfl, DPut.k (k := .inl (n : Int)) h2 (tup_lt (by omega)), ?_⟩
      have hs1 : upd H'' bd (.dK (putK kvs (.inl (n : Int)) (.bl true))) s0 = some (.lst (nats (sz0 r).reverse)) := by rw [upd_ne sbd]; exact h1
      refine ⟨_, rfl, ty_lst hs1, s0, _, _, rfl, rfl, hs1, hlen2, ?_⟩
      refine ⟨bd, _, putK kvs (.inl (n : Int)) (.bl true), rfl, same_put (same_put sH nbd) hs0, nbd, sbd, ?_, ?_, ?_, fun g => ?_⟩
      · rw [upd_same]
        show _ = some (HO.lst (nats (0 :: sz0 r).reverse))
        rw [List.reverse_cons, nats_snoc]; rfl
      · rw [upd_ne sbd.symm, upd_same]
      · have := length_putK kvs (.inl (n : Int)) (.bl true); omega
      · show _ = decide (g ∈ n :: behind r)
        rw [valV_put]
        by_cases c : g = n
        · subst c; simp
        · rw [if_neg (fun z => c (by injection z with z; omega)), h4 g]
          simp [c]
    | br o g =>
      refine if_false_of rfl ?_
      refine ⟨_, rfl, ty_lst h1, _, rfl, a, _, 0, _, rfl, rfl, SqT.of hf, at_of (j := 0) rfl rfl, rfl, _, rfl, if_false_of rfl (if_false_of rfl ?_)⟩
      refine ⟨s0, _, _, rfl, rfl, h1, hlen2, ?_⟩
      intro b1 hb1
      have sb1 : s0 ≠ b1 := ne_of_none upd_same hb1
      have nb1 : H b1 = none := by
        cases e : H b1 with
        | none => rfl
        | some o => rw [upd_ne sb1.symm, sH _ _ e] at hb1; cases hb1
      refine ⟨b1, _, [], rfl, same_put (same_put sH hs0) nb1, nb1, sb1, ?_, upd_same, Nat.zero_le _, fun g => rfl⟩
      rw [upd_ne sb1, upd_same]
      show _ = some (HO.lst (nats (1 :: sz0 r).reverse))
      rw [List.reverse_cons, nats_snoc]; rfl
    | nop =>
      refine if_false_of rfl ?_
      refine ⟨_, rfl, ty_lst h1, _, rfl, a, _, 0, _, rfl, rfl, SqT.of hf, at_of (j := 0) rfl rfl, rfl, _, rfl, if_false_of rfl (if_false_of rfl ?_)⟩
      refine ⟨s0, _, _, rfl, rfl, h1, hlen2, ?_⟩
      intro b1 hb1
      have sb1 : s0 ≠ b1 := ne_of_none upd_same hb1
      have nb1 : H b1 = none := by
        cases e : H b1 with
        | none => rfl
        | some o => rw [upd_ne sb1.symm, sH _ _ e] at hb1; cases hb1
      refine ⟨b1, _, [], rfl, same_put (same_put sH hs0) nb1, nb1, sb1, ?_, upd_same, Nat.zero_le _, fun g => rfl⟩
      rw [upd_ne sb1, upd_same]
      show _ = some (HO.lst (nats (1 :: sz0 r).reverse))
      rw [List.reverse_cons, nats_snoc]; rfl
    | stop =>
      refine if_false_of rfl ?_
      refine ⟨_, rfl, ty_lst h1, _, rfl, a, _, 0, _, rfl, rfl, SqT.of hf, at_of (j := 0) rfl rfl, rfl, _, rfl, if_false_of rfl (if_false_of rfl ?_)⟩
      refine ⟨s0, _, _, rfl, rfl, h1, hlen2, ?_⟩
      intro b1 hb1
      have sb1 : s0 ≠ b1 := ne_of_none upd_same hb1
      have nb1 : H b1 = none := by
        cases e : H b1 with
        | none => rfl
        | some o => rw [upd_ne sb1.symm, sH _ _ e] at hb1; cases hb1
      refine ⟨b1, _, [], rfl, same_put (same_put sH hs0) nb1, nb1, sb1, ?_, upd_same, Nat.zero_le _, fun g => rfl⟩
      rw [upd_ne sb1, upd_same]
      show _ = some (HO.lst (nats (1 :: sz0 r).reverse))
      rw [List.reverse_cons, nats_snoc]; rfl
    | jmp g =>
      obtain ⟨pp, hat'⟩ := hat'
      refine if_false_of rfl ?_
      refine ⟨_, rfl, ty_lst h1, _, rfl, a, _, 0, _, rfl, rfl, SqT.of hat', at_of (j := 0) rfl rfl, rfl, _, rfl, if_true_of rfl ?_⟩
      refine ⟨_, rfl, a, _, 1, _, rfl, rfl, SqT.of hat', at_of (j := 1) rfl rfl, _, rfl, bd, _, rfl, DGet.k (k := .inl (g : Int)) h2, _, rfl, ?_⟩
      rw [h4 g]
      have fin : ∀ n : Nat, size0 (.jmp g) r = n → ∃ l0 xs0 y0, V.ref s0 = .ref l0 ∧ [V.int (n : Int)] = [y0] ∧ H'' l0 = some (.lst xs0) ∧ xs0.length < sizeLine ∧ ∀ b1, upd H'' l0 (.lst (xs0 ++ [y0])) b1 = none → ∃ (bd : Addr) (v : Option V) (kvs : List (Key × V)), [some (V.ref l), some (.ref s0), some (.ref b1), some (.ref a)] = [some (V.ref l), some (.ref s0), some (.ref bd), v] ∧ Same H (upd (upd H'' l0 (.lst (xs0 ++ [y0]))) b1 (.dK [])) ∧ H bd = none ∧ s0 ≠ bd ∧
          (upd (upd H'' l0 (.lst (xs0 ++ [y0]))) b1 (.dK [])) s0 = some (.lst (nats (sz0 (.jmp g :: r)).reverse)) ∧ (upd (upd H'' l0 (.lst (xs0 ++ [y0]))) b1 (.dK [])) bd = some (.dK kvs) ∧ kvs.length ≤ i + 1 ∧ ∀ g' : Nat, (valV kvs (.inl (g' : Int))).isSome = decide (g' ∈ behind (.jmp g :: r)) := by
        intro n hn
        refine ⟨s0, _, _, rfl, rfl, h1, hlen2, fun b1 hb1 => ?_⟩
        have sb1 : s0 ≠ b1 := ne_of_none upd_same hb1
        have nb1 : H b1 = none := by
          cases e : H b1 with
          | none => rfl
          | some o => rw [upd_ne sb1.symm, sH _ _ e] at hb1; cases hb1
        refine ⟨b1, _, [], rfl, same_put (same_put sH hs0) nb1, nb1, sb1, ?_, upd_same, Nat.zero_le _, fun g => rfl⟩
        rw [upd_ne sb1, upd_same]
        show _ = some (HO.lst (nats (size0 (.jmp g) r :: sz0 r).reverse))
        rw [hn, List.reverse_cons, nats_snoc]
      by_cases c : g ∈ behind r
      · exact if_true_of (decide_eq_true c) (fin 0 (if_pos c))
      · exact if_false_of (decide_eq_false c) (fin 1 (if_neg c))
  · rintro σ H' ⟨bd, v, kvs, rfl, sH, nbd, sbd, h1, h2, h3, h4⟩
    rw [List.length_map, hal, Nat.sub_self, List.drop_zero] at h1
    refine ⟨_, rfl, ty_lst h1, s0, _, rfl, rfl, h1, ?_⟩
    refine ⟨_, rfl, h _ s0 (same_put sH hs0) hs0 ?_⟩
    rw [upd_same, ← List.map_reverse, List.reverse_reverse]
theorem sc__starts_of : FnScope ["lines", "sizes", "starts", "labels", "start", "line", "size"] ["lines", "sizes"] (defScope s__starts_of) := ⟨rfl, rfl, rfl, by decide +kernel, rfl, by decide +kernel, by decide +kernel⟩
theorem g__starts_of (T : Txt K mg w)  : Gd P w K mg base CX0 1 "_starts_of" ["lines", "sizes"] (sp__starts_of K) := by
  have sc := sc__starts_of
  refine T.d__starts_of.ok sc len2 (fun _ _ _ _ _ _ us hl => match us, hl with | [_, _], _ => rfl) (fun f cdv A outer s H vs Q E hr h => ?_)
  obtain ⟨x0, x1, rfl, h⟩ := h
  obtain ⟨l, z, ls, zs, rfl, rfl, L, hz, hlen, h2, h⟩ := h
  refine ⟨_, (pss_cons (ps_set (i := 2) sc.nd rfl (Or.inl rfl) (pe_lst pa_nil))
      (pss_cons (ps_set (i := 3) sc.nd rfl (Or.inl rfl) pe_dnewK)
      (pss_cons (ps_set (i := 4) sc.nd rfl (Or.inl rfl) pe_int)
      (pss_cons (ps_for PassesOwn.never rfl (pi_zip (by rfl) T.n_zip (pa_cons (pv 0) (pa_cons (pv 1) pa_nil))) (pg_tup rfl (pgs_cons (pg_name (i := 5) sc.nd rfl (Or.inl rfl)) (pgs_cons (pg_name (i := 6) sc.nd rfl (Or.inl rfl)) pgs_nil))) (pss_cons (ps_expr (pe_bm PySem.F.plainAttrs_list PySem.F.slot_list_append PySem.F.type_list_append mt_append (pv 2) (pa_cons (pv 4) pa_nil)))
      (pss_cons (ps_if (pt_cmpR op_eq (pe_ix ix_tup (pv 5) pe_int (fun _ _ => rfl)) pe_str (nomark _)) (pss_one (ps_dput (hu_of hr) (pv 3) (pe_ix ix_tup (pv 5) pe_int (fun _ _ => rfl)) (pv 4) rfl)) pss_nil)
      (pss_one (ps_aug (i := 4) sc.nd rfl (Or.inl rfl) (pv 6) ip_add)))))
      (pss_one (ps_ret (pe_tup (pa_cons (pv 2) (pa_cons (pv 3) pa_nil))))))))), ?_⟩
  obtain ⟨as, hl, hL, hll⟩ := L
  have hal := hL.len
  refine ⟨by show 0 ≤ sizeLine; decide, fun s0 hs0 => ?_⟩
  intro b0 hb0
  have sb : s0 ≠ b0 := ne_of_none upd_same hb0
  have nb0 : H b0 = none := by rw [upd_ne sb.symm] at hb0; exact hb0
  have S0 : Same H (upd (upd H s0 (.lst [])) b0 (.dK [])) := same_put (same_new hs0) nb0
  refine ⟨_, rfl, _, rfl, l, z, as.map V.ref, nats zs, rfl, SqL.of (S0 _ _ hl), SqL.of (S0 _ _ hz), ?_⟩
  have hlen3 : (as.map V.ref).length = (nats zs).length := by rw [List.length_map, List.length_map, hal, hlen]
  refine RZ.for_zipL hlen3 (fun i σ H' => i ≤ zs.length ∧ ∃ (v5 v6 : Option V), σ = [some (.ref l), some (.ref z), some (.ref s0), some (.ref b0), some (.int (((zs.take i).sum : Nat) : Int)), v5, v6] ∧ Same H H' ∧
      H' s0 = some (.lst (nats ((starts 0 zs).take i))) ∧ H' b0 = some (.dK (labs 0 (ls.take i) (zs.take i) []))) ?_ ?_ ?_ ?_
  · exact ⟨Nat.zero_le _, _, _, rfl, S0, by rw [upd_ne sb]; exact upd_same, upd_same⟩
  · rintro i σ H' ⟨_, v5, v6, rfl, sH, _⟩
    exact ⟨SqL.of (sH _ _ hl), SqL.of (sH _ _ hz)⟩
  · rintro i x y Tt σ H' hx hy ⟨hi, v5, v6, rfl, sH, h1, h3⟩ hT
    obtain ⟨a, ha, rfl⟩ := ref_get hx
    obtain ⟨n, hn, rfl⟩ := nat_get hy
    obtain ⟨ln, hln, hat⟩ := hL.at ha
    have hilt : i < zs.length := by
      by_cases c : i < zs.length
      · exact c
      · rw [List.getElem?_eq_none (by omega)] at hn; cases hn
    have sT : s0 ≠ Tt := ne_of_none h1 hT
    have bT : b0 ≠ Tt := ne_of_none h3 hT
    have sH2 : Same H (upd H' Tt (.tup [.ref a, .int (n : Int)])) := Same.tr sH (same_new hT)
    have hat' := hat.keep (as := []) (ButL.same sH2) (fun a z => by cases z)
    have h1' : upd H' Tt (.tup [.ref a, .int (n : Int)]) s0 = some (.lst (nats ((starts 0 zs).take i))) := by rw [upd_ne sT]; exact h1
    refine ⟨Tt, _, rfl, SqT.of upd_same, rfl, _, _, rfl, _, _, rfl, rfl, ?_⟩
    have hstl : (nats ((starts 0 zs).take i)).length < sizeLine := by
      rw [List.length_map, List.length_take, starts_len]; exact tup_lt (by omega)
    refine ⟨_, rfl, ty_lst h1', _, rfl, s0, _, _, rfl, rfl, h1', hstl, ?_⟩
    have as0 : a ≠ s0 := fun z => by
      obtain ⟨q, e⟩ := hat.first
      rw [z, hs0] at e; cases e
    obtain ⟨xs', hf⟩ := (hat.keep (as := []) (ButL.same (same_put sH2 hs0)) (fun a z => by cases z) : LnAt (upd (upd H' Tt (.tup [.ref a, .int (n : Int)])) s0 (.lst (nats ((starts 0 zs).take i) ++ [.int (((zs.take i).sum : Nat) : Int)]))) a ln).first
    refine ⟨_, rfl, a, _, 0, _, rfl, rfl, SqT.of hf, at_of (j := 0) rfl rfl, rfl, _, rfl, ?_⟩
    have esum : ((zs.take i).sum : Int) + (n : Int) = (((zs.take (i + 1)).sum : Nat) : Int) := by
      rw [take_succ hn, List.sum_append]; simp
    have hb2 : upd (upd H' Tt (.tup [.ref a, .int (n : Int)])) s0 (.lst (nats ((starts 0 zs).take i) ++ [.int (((zs.take i).sum : Nat) : Int)])) b0 = some (.dK (labs 0 (ls.take i) (zs.take i) [])) := by
      rw [upd_ne sb.symm, upd_ne bT]; exact h3
    have hs2 : upd (upd H' Tt (.tup [.ref a, .int (n : Int)])) s0 (.lst (nats ((starts 0 zs).take i) ++ [.int (((zs.take i).sum : Nat) : Int)])) s0 = some (.lst (nats ((starts 0 zs).take (i + 1)))) := by
      rw [upd_same, starts_take hilt, nats_snoc]
    have ekl : (ls.take i).length = (zs.take i).length := by rw [List.length_take, List.length_take, hlen]
    have esn := labs_snoc (ls.take i) (zs.take i) ln n 0 [] ekl
    rw [← take_succ hln, ← take_succ hn, Nat.zero_add] at esn
    have nxt : ∀ H2 : Hp, Same H H2 → H2 s0 = some (.lst (nats ((starts 0 zs).take (i + 1)))) → H2 b0 = some (.dK (labs 0 (ls.take (i + 1)) (zs.take (i + 1)) [])) →
        i + 1 ≤ zs.length ∧ ∃ (v5 v6 : Option V), [some (V.ref l), some (.ref z), some (.ref s0), some (.ref b0), some (.int (((zs.take i).sum : Int) + (n : Int))), some (.ref a), some (.int (n : Int))] = [some (V.ref l), some (.ref z), some (.ref s0), some (.ref b0), some (.int (((zs.take (i + 1)).sum : Nat) : Int)), v5, v6] ∧ Same H H2 ∧
      H2 s0 = some (.lst (nats ((starts 0 zs).take (i + 1)))) ∧ H2 b0 = some (.dK (labs 0 (ls.take (i + 1)) (zs.take (i + 1)) [])) := by
      intro H2 q1 q2 q3
      exact ⟨by omega, _, _, by rw [esum], q1, q2, q3⟩
    cases ln with
    | lab m =>
      refine if_true_of rfl ?_
      have hat2 : LnAt (upd (upd H' Tt (.tup [.ref a, .int (n : Int)])) s0 (.lst (nats ((starts 0 zs).take i) ++ [.int (((zs.take i).sum : Nat) : Int)]))) a (.lab m) := hat.keep (as := []) (ButL.same (same_put sH2 hs0)) (fun a z => by cases z)
      have hll2 : (labs 0 (ls.take i) (zs.take i) []).length < sizeLine := by
        have := labs_len (ls.take i) (zs.take i) 0 []
        rw [List.length_take] at this
        exact tup_lt (by simp at this; omega)
      refine ⟨_, rfl, _, rfl, _, rfl, a, _, 1, _, rfl, rfl, SqT.of hat2, at_of (j := 1) rfl rfl, b0, _, rfl, DPut.k (k := .inl (m : Int)) hb2 hll2, ?_⟩
      refine ⟨_, rfl, _, rfl, _, _, rfl, rfl, ?_⟩
      refine nxt _ (same_put (same_put sH2 hs0) nb0) ?_ ?_
      · rw [upd_ne sb]; exact hs2
      · rw [upd_same, esn]
    | _ =>
      refine if_false_of rfl ?_
      refine ⟨_, rfl, _, rfl, _, _, rfl, rfl, ?_⟩
      refine nxt _ (same_put sH2 hs0) hs2 ?_
      rw [esn]; exact hb2
  · rintro σ H' ⟨hi, v5, v6, rfl, sH, h1, h3⟩
    have e : (as.map V.ref).length = zs.length := by rw [List.length_map, hal, hlen]
    rw [e] at h1 h3 ⊢
    rw [show (starts 0 zs).take zs.length = starts 0 zs from by rw [← starts_len zs 0, List.take_length]] at h1
    rw [show ls.take zs.length = ls from by rw [hlen, List.take_length], List.take_length] at h3
    refine ⟨_, rfl, _, rfl, (by show 2 ≤ sizeLine; decide), fun t ht => ?_⟩
    refine h _ t s0 b0 (Same.tr sH (same_new ht)) upd_same hs0 ?_ nb0 ?_
    · rw [upd_ne (ne_of_none h1 ht)]; exact h1
    · rw [upd_ne (ne_of_none h3 ht)]; exact h3
end
end K70

namespace K70
open PySem PyProof.Rows L2 My Ru
open Builtin (bitAnd bitOr)
structure GoodL (ls : List Ln) : Prop where
  br : ∀ (i o g : Nat), ls[i]? = some (.br o g) → o < 6 ∧ ∃ j, lastLab g ls = some j
  jm : ∀ (i g : Nat), ls[i]? = some (.jmp g) → ∃ j, lastLab g ls = some j
  few : (brs ls).length ≤ 60
  last : ∃ pre, ls = pre ++ [.stop] ∧ ∀ l ∈ pre, l ≠ .stop
  len : ls.length ≤ 6000
abbrev keysD (bs : List Nat) : List (Key × V) := bs.map fun i => (Sum.inl ((i : Nat) : Int), V.bl true)
def sp_long_branches (K : PySem.W.Frag) : Sp := sp1 fun x H Q _ => ∃ (l : Addr) (ls : List Ln), x = .ref l ∧ Lines H l ls ∧ GoodL ls ∧
  ∀ (F : Nat → Bool) (H' : Hp) (d : Addr), Best ls F → Same H H' → H d = none → H' d = some (.dK (keysD ((brs ls).filter F))) → Q (.ref d) H'
theorem szs_set {F : Nat → Bool} : ∀ (ls : List Ln) (b i o g : Nat), ls[i]? = some (.br o g) → (szs F b ls).set i 2 = szs (fun j => decide (j = b + i) || F j) b ls
  | [], _, i, _, _, h => by simp at h
  | l :: r, b, 0, o, g, h => by
    injection h with h
    subst h
    simp only [szs, List.set_cons_zero, Nat.add_zero]
    have e : szs F (b + 1) r = szs (fun j => decide (j = b) || F j) (b + 1) r := szs_eq r (b + 1) fun j hj => by
      rw [decide_eq_false (show ¬ j = b by omega), Bool.false_or]
    rw [e]
    simp [isBr]
  | l :: r, b, i + 1, o, g, h => by
    simp only [szs, List.set_cons_succ]
    rw [szs_set r (b + 1) i o g h]
    have e1 : (decide (b = b + (i + 1)) || F b) = F b := by rw [decide_eq_false (show ¬ b = b + (i + 1) by omega), Bool.false_or]
    rw [show b + 1 + i = b + (i + 1) by omega]
    simp only [e1]
where
  szs_eq {F G : Nat → Bool} : ∀ (ls : List Ln) (b : Nat), (∀ j, b ≤ j → F j = G j) → szs F b ls = szs G b ls
    | [], _, _ => rfl
    | l :: r, b, h => by
      simp only [szs]
      rw [h b (Nat.le_refl _), szs_eq r (b + 1) fun j hj => h j (by omega)]
theorem starts_S {F : Nat → Bool} {ls : List Ln} {i : Nat} (h : i < ls.length) : (starts 0 (szs F 0 ls))[i]? = some (S F ls i) := by
  rw [starts_at _ _ _ (by rw [szs_len]; exact h), Nat.zero_add]; rfl
theorem labs_S {F : Nat → Bool} {ls : List Ln} {g j : Nat} (h : lastLab g ls = some j) : valV (labs 0 ls (szs F 0 ls) []) (.inl (g : Int)) = some (.int (S F ls j : Int)) := by
  rw [labs_get, labPos_eq, h]
  simp [S]
def cnt (ls : List Ln) (F : Nat → Bool) : Nat := ((brs ls).filter fun i => !F i).length
theorem filt_le {p q : Nat → Bool} (h : ∀ x, p x = true → q x = true) : ∀ xs : List Nat, (xs.filter p).length ≤ (xs.filter q).length
  | [] => Nat.le_refl _
  | x :: xs => by
    have ih := filt_le h xs
    rw [List.filter_cons, List.filter_cons]
    cases e : p x with
    | true => rw [h x e, if_pos rfl, if_pos rfl, List.length_cons, List.length_cons]; omega
    | false =>
      rw [if_neg Bool.false_ne_true]
      cases q x with
      | true => rw [if_pos rfl, List.length_cons]; omega
      | false => rw [if_neg Bool.false_ne_true]; exact ih
theorem filt_lt {p q : Nat → Bool} (h : ∀ x, p x = true → q x = true) {i : Nat} (hp : p i = false) (hq : q i = true) : ∀ xs : List Nat, i ∈ xs → (xs.filter p).length < (xs.filter q).length
  | x :: xs, hi => by
    rw [List.filter_cons, List.filter_cons]
    by_cases c : x = i
    · subst c
      have := filt_le h xs
      rw [hp, hq, if_neg Bool.false_ne_true, if_pos rfl, List.length_cons]; omega
    · have ih := filt_lt h hp hq xs (by rcases List.mem_cons.mp hi with z | z; exact absurd z.symm c; exact z)
      cases e : p x with
      | true => rw [h x e, if_pos rfl, if_pos rfl, List.length_cons, List.length_cons]; omega
      | false =>
        rw [if_neg Bool.false_ne_true]
        cases q x with
        | true => rw [if_pos rfl, List.length_cons]; omega
        | false => rw [if_neg Bool.false_ne_true]; exact ih
theorem cnt_lt {ls : List Ln} {F : Nat → Bool} {i : Nat} (h : i ∈ brs ls) (hf : F i = false) : cnt ls (fun j => decide (j = i) || F j) < cnt ls F := by
  refine filt_lt (i := i) (fun x hx => ?_) (by simp) (by simp [hf]) _ h
  cases e : F x with
  | false => rfl
  | true => simp [e] at hx
/-- what is kept of the branches at a place -/
theorem brs_at {ls : List Ln} {t i : Nat} (h : (brs ls)[t]? = some i) : ∃ o g, ls[i]? = some (.br o g) := mem_brs.mp (List.mem_of_getElem? h)
theorem brs_take {ls : List Ln} {i : Nat} (h : i < ls.length) : (List.range (i + 1)).filter (fun j => isBr (ls.getD j .nop)) = (List.range i).filter (fun j => isBr (ls.getD j .nop)) ++ (if isBr (ls.getD i .nop) = true then [i] else []) := by
  rw [List.range_succ, List.filter_append]
  congr 1
  rw [List.filter_cons, List.filter_nil]
/-- the lists and the dict of a row of looks -/
structure LB (H0 : Hp) (z bl fd : Addr) (ls : List Ln) (F : Nat → Bool) (H' : Hp) : Prop where
  same : Same H0 H'
  zs : H' z = some (.lst (nats (szs F 0 ls)))
  bs : H' bl = some (.lst (nats (brs ls)))
  fs : ∃ kvs : List (Key × V), H' fd = some (.dK kvs) ∧ kvs.length + cnt ls F ≤ (brs ls).length ∧ ∀ i : Nat, (valV kvs (.inl (i : Int))).isSome = F i
theorem szs_two (F : Nat → Bool) : ∀ (ls : List Ln) (b : Nat), ∀ s ∈ szs F b ls, s ≤ 2
  | [], _, s, h => by cases h
  | l :: r, b, s, h => by
    unfold szs at h
    rcases List.mem_cons.mp h with e | e
    · rw [e]
      split
      · exact Nat.le_refl _
      · cases l with
        | jmp g => show (if g ∈ behind r then 0 else 1) ≤ 2; split <;> omega
        | lab n => exact Nat.zero_le 2
        | br o g => show 1 ≤ 2; omega
        | nop => show 1 ≤ 2; omega
        | stop => show 1 ≤ 2; omega
    · exact szs_two F r (b + 1) s e
theorem dist_eq {F : Nat → Bool} {ls : List Ln} {i g j : Nat} (h : lastLab g ls = some j) : (S F ls j : Int) - (S F ls i : Int) = dist F ls i g := by
  unfold dist; rw [h]; rfl
theorem key_put {kvs : List (Key × V)} {i : Nat} {v : V} {F : Nat → Bool} (h : ∀ j : Nat, (valV kvs (.inl (j : Int))).isSome = F j) : ∀ j : Nat, (valV (putK kvs (.inl (i : Int)) v) (.inl (j : Int))).isSome = (decide (j = i) || F j) := by
  intro j
  rw [valV_put]
  by_cases c : j = i
  · subst c; simp
  · rw [if_neg (fun z => c (by injection z with z; omega)), h j, decide_eq_false c, Bool.false_or]
theorem keysD_put {bs : List Nat} {i : Nat} (h : i ∉ bs) : putK (keysD bs) (.inl (i : Int)) (.bl true) = keysD (bs ++ [i]) := by
  have : valV (keysD bs) (.inl (i : Int)) = none := by
    unfold valV
    rw [List.find?_eq_none.mpr]
    · rfl
    · intro x hx
      obtain ⟨j, hj, rfl⟩ := List.mem_map.mp hx
      intro z
      have z := of_decide_eq_true z
      injection z with z
      exact h (by have : j = i := by omega
                  rw [← this]; exact hj)
  rw [putK_new _ this]
  show _ = List.map _ (bs ++ [i])
  rw [List.map_append]; rfl
theorem ixN_at {n i : Nat} (h : i < n) : ixN n (i : Int) = some i := by
  unfold ixN
  rw [if_pos (Int.natCast_nonneg i), Int.toNat_natCast, if_pos (by omega)]
/-- a comprehension of a dict over whatever walks -/
theorem dc_it {J : It} {n : Nat} {Gd' : Hp → Prop} {Y : Nat → Hp → V → Hp → Prop} (wk : Walk J n Gd' Y) {g : TG} {tt : TT} {tk tv : TE} {vs : List Nat} {σ : L2.St} {H1 : Hp} {D : Addr} {Qd : Hp → Prop} (Pv : Nat → Hp → Prop)
    (start : Pv 0 (upd H1 D (.dK []))) (stays : ∀ i H, i ≤ n → Pv i H → Gd' H)
    (turn : ∀ i x H H', i < n → Pv i H → Y i H x H' → g x (wipe σ vs) H' fun σ2 H2 => wipe σ2 vs = wipe σ vs ∧ tt σ2 H2 fun b H3 =>
      if b = true then tk σ2 H3 fun y H4 => tv σ2 H4 fun z H5 => ∃ kvs k, y = kV k ∧ H5 D = some (.dK kvs) ∧ kvs.length < sizeLine ∧ Pv (i + 1) (upd H5 D (.dK (putK kvs k z))) else Pv (i + 1) H3)
    (fine : ∀ H, Pv n H → Qd H) :
    ∃ W : Nat → Nat → Hp → Prop, (∃ m, W 0 m (upd H1 D (.dK []))) ∧ ∀ i m H, W i m H →
      (J.stop i H ∧ Qd H) ∨ (J.go i H ∧ ∃ Nx : Hp → Prop, (∀ H', Nx H' → ∃ m', m' < m ∧ W (i + 1) m' H') ∧ ∀ x H', J.yld i H x H' → g x (wipe σ vs) H' fun σ2 H2 => wipe σ2 vs = wipe σ vs ∧ tt σ2 H2 fun b H3 =>
        if b = true then tk σ2 H3 fun y H4 => tv σ2 H4 fun z H5 => ∃ kvs k, y = kV k ∧ H5 D = some (.dK kvs) ∧ kvs.length < sizeLine ∧ Nx (upd H5 D (.dK (putK kvs k z))) else Nx H3) := by
  refine ⟨fun i m H => (m = n - i ∧ i ≤ n) ∧ Pv i H, ⟨n - 0, ⟨rfl, Nat.zero_le n⟩, start⟩, fun i m H q => ?_⟩
  obtain ⟨⟨em, hi⟩, p⟩ := q
  have gq := stays i H hi p
  rcases Nat.lt_or_ge i n with lt | ge
  · refine Or.inr ⟨wk.goes i H lt gq, Pv (i + 1), fun H' p' => ⟨n - (i + 1), by omega, ⟨rfl, lt⟩, p'⟩, fun x H' y => turn i x H H' lt p (wk.yields i H x H' lt gq y)⟩
  · have e : i = n := Nat.le_antisymm hi ge
    rw [e] at p ⊢
    exact Or.inl ⟨wk.stops H gq, fine H p⟩
theorem nats_set (xs : List Nat) (i n : Nat) : nats (xs.set i n) = (nats xs).set i (.int (n : Int)) := by
  show List.map _ (xs.set i n) = (List.map _ xs).set i _
  rw [List.map_set]
section
variable {P : Program} {w : World} {K : PySem.W.Frag} {mg : Str → Option Value} {base : Heap}
theorem sc_long_branches : FnScope ["lines", "sizes", "branches", "found", "changed", "at", "starts", "labels", "distance", "line"] ["lines"] (defScope s_long_branches) := ⟨rfl, rfl, rfl, by decide +kernel, rfl, by decide +kernel, by decide +kernel⟩
theorem g_long_branches (T : Txt K mg w) (G__sizes_of : Gd P w K mg base CX0 1 "_sizes_of" ["lines"] (sp__sizes_of K)) (G__starts_of : Gd P w K mg base CX0 1 "_starts_of" ["lines", "sizes"] (sp__starts_of K)) : Gd P w K mg base CX0 2 "long_branches" ["lines"] (sp_long_branches K) := by
  have sc := sc_long_branches
  refine T.d_long_branches.ok sc len1 (fun _ _ _ _ _ _ us hl => match us, hl with | [_], _ => rfl) (fun f cdv A outer s H vs Q E hr h => ?_)
  obtain ⟨x0, rfl, h⟩ := h
  obtain ⟨l, ls, rfl, L, G, h⟩ := h
  refine ⟨_, (pss_cons (ps_set (i := 1) sc.nd rfl (Or.inl rfl) (pe_g G__sizes_of (hr.mono (by omega)) pass0 (pa_cons (pv 0) pa_nil)))
      (pss_cons (ps_setLc (i := 2) (own := [("at", 5), ("line", 9)]) (g := gTup K 2 (gCons (gName 5) (gCons (gName 9) (gNil)))) (by rfl) sc.nd rfl rfl (sw_true rfl rfl rfl (by decide +kernel)) (pi_enum rfl T.n_enumerate (pa_cons (pv 0) pa_nil)) (blkOk_by (own := [("at", 5), ("line", 9)]) (N := ["lines", "sizes", "branches", "found", "changed", "at", "starts", "labels", "distance", "line"]) (sc := defScope s_long_branches) (by decide +kernel)) (fun _ _ _ _ _ => (pg_tup rfl (pgs_cons (pg_name (i := 5) sc.nd rfl (Or.inl rfl)) (pgs_cons (pg_name (i := 9) sc.nd rfl (Or.inl rfl)) pgs_nil)))) (fun _ _ _ _ _ => (pts_one (pt_cmpR op_eq (pe_ix (ix_tup : IxR _ (rIxT K)) (pv 9) pe_int (fun _ _ => rfl)) pe_str (nomark _)))) (fun _ _ _ _ _ => (pv 5)))
      (pss_cons (ps_set (i := 3) sc.nd rfl (Or.inr rfl) pe_dnewK)
      (pss_cons (ps_set (i := 4) sc.nd rfl (Or.inl rfl) pe_bl)
      (pss_cons (ps_while PassesOwn.never (pt_val (pv 4)) (pss_cons (ps_set (i := 4) sc.nd rfl (Or.inl rfl) pe_bl)
      (pss_cons (ps_asg (pe_g G__starts_of (hr.mono (by omega)) pass0 (pa_cons (pv 0) (pa_cons (pv 1) pa_nil))) (pg_tup rfl (pgs_cons (pg_name (i := 6) sc.nd rfl (Or.inl rfl)) (pgs_cons (pg_name (i := 7) sc.nd rfl (Or.inl rfl)) pgs_nil))))
      (pss_one (ps_for PassesOwn.never rfl (pi_list (pv 2)) (pg_name (i := 5) sc.nd rfl (Or.inl rfl)) (pss_cons (ps_set (i := 8) sc.nd rfl (Or.inl rfl) (pe_op op_sub (pe_dget (hu_of hr) (pv 7) (pe_ix ix_tup (pe_ix ix_list (pv 0) (pv 5) (fun _ _ => rfl)) pe_int (fun _ _ => rfl)) (fun _ _ => rfl)) (pe_ix ix_list (pv 6) (pv 5) (fun _ _ => rfl))))
      (pss_one (ps_if (PW.pt (pw_and (pt_cmp (pc_dnotin (hu_of hr) (pv 5) (pv 3))) (pw_and1 (pt_not (pt_chain op_le op_le (pe_gint T.c_LEAST_REACH) (pv 8) (pe_gint T.c_MOST_REACH)))))) (pss_cons (ps_dput (hu_of hr) (pv 3) (pv 5) pe_bl rfl)
      (pss_cons (ps_asg pe_int (pg_sub (pv 1) (pv 5) set_list))
      (pss_one (ps_set (i := 4) sc.nd rfl (Or.inl rfl) pe_bl)))) pss_nil))))))))
      (pss_one (ps_ret (pe_dc (own := [("at", 5)]) (g := gName 5) (by rfl) sc.nd (pi_list (pv 2)) (blkOk_by (own := [("at", 5)]) (N := ["lines", "sizes", "branches", "found", "changed", "at", "starts", "labels", "distance", "line"]) (sc := defScope s_long_branches) (by decide +kernel)) (fun _ _ _ _ _ => (pg_name (i := 5) sc.nd rfl (Or.inl rfl))) (fun _ _ _ _ _ => (pts_one (pt_cmp (pc_din (hu_of hr) (pv 5) (pv 3))))) (fun _ _ _ _ _ => (pv 5)) (fun _ _ _ _ _ => pe_bl))))))))), ?_⟩
  obtain ⟨as, hl, hL, hll⟩ := L
  have hal := hL.len
  refine ⟨_, rfl, _, rfl, l, ls, rfl, ⟨as, hl, hL, hll⟩, fun H1 z s1 hz hz1 => ?_⟩
  refine ⟨_, rfl, l, as.map V.ref, rfl, SqL.of (s1 _ _ hl), fun D hD => ?_⟩
  have zD : z ≠ D := ne_of_none hz1 hD
  have nD : H D = none := by
    cases e : H D with
    | none => rfl
    | some o => rw [s1 _ _ e] at hD; cases hD
  refine lc_it (walk_enum (K := K) (a := l) (xs := as.map V.ref)) (fun i H' => Same H1 H' ∧ H' D = some (.lst (nats ((List.range i).filter fun j => isBr (ls.getD j .nop))))) ⟨same_new hD, upd_same⟩ (fun i H' _ p => SqL.of (p.1 _ _ (s1 _ _ hl))) (fun i x H2 H3 hi p y => ?_) (fun H2 p => ?_)
  · obtain ⟨Tt, x, y, rfl, hT, rfl, e1, e2⟩ := y
    injection e1 with e1
    subst e1
    rw [List.length_map, hal] at hi
    obtain ⟨a, ha, rfl⟩ := ref_get e2
    obtain ⟨ln, hln, hat⟩ := hL.at ha
    have sT : Same H (upd H2 Tt (.tup [.int (i : Nat), .ref a])) := Same.tr s1 (Same.tr p.1 (same_new hT))
    obtain ⟨xs', hf⟩ := (hat.keep (as := []) (ButL.same sT) (fun a z => by cases z)).first
    have DT : D ≠ Tt := ne_of_none p.2 hT
    have ekd : isBr (ls.getD i .nop) = isBr ln := by rw [List.getD_eq_getElem?_getD, hln]; rfl
    refine ⟨Tt, _, rfl, SqT.of upd_same, rfl, _, _, rfl, _, _, rfl, rfl, rfl, ?_⟩
    refine ⟨_, rfl, a, _, 0, _, rfl, rfl, SqT.of hf, at_of (j := 0) rfl rfl, rfl, _, rfl, ?_⟩
    rw [kind_br]
    have hlc : (nats ((List.range i).filter fun j => isBr (ls.getD j .nop))).length < sizeLine := by
      rw [List.length_map]
      have := List.length_filter_le (fun j => isBr (ls.getD j .nop)) (List.range i)
      rw [List.length_range] at this
      exact tup_lt (by omega)
    cases eb : isBr ln with
    | true =>
      refine if_true_of rfl ?_
      refine ⟨_, rfl, _, (by rw [upd_ne DT]; exact p.2), hlc, fun x o e => ?_, ?_⟩
      · by_cases c : x = D
        · rw [c, hD] at e; cases e
        · rw [upd_ne c, upd_ne (ne_of_none (p.1 _ _ e) hT)]; exact p.1 _ _ e
      · rw [upd_same, brs_take hi, ekd, eb, if_pos rfl, nats_snoc]
    | false =>
      refine if_false_of rfl ?_
      refine ⟨Same.tr p.1 (same_new hT), ?_⟩
      rw [upd_ne DT, brs_take hi, ekd, eb, if_neg Bool.false_ne_true, List.append_nil]
      exact p.2
  obtain ⟨s2, hDv⟩ := p
  rw [List.length_map, hal] at hDv
  have hDv : H2 D = some (.lst (nats (brs ls))) := hDv
  have s02 : Same H H2 := Same.tr s1 s2
  intro fd hfd
  have zfd : z ≠ fd := ne_of_none (s2 _ _ hz1) hfd
  have Dfd : D ≠ fd := ne_of_none hDv hfd
  have nfd : H fd = none := by
    cases e : H fd with
    | none => rfl
    | some o => rw [s02 _ _ e] at hfd; cases hfd
  have lbl : (brs ls).length ≤ 60 := G.few
  have c0 : cnt ls (fun _ => false) ≤ (brs ls).length := List.length_filter_le _ _
  refine ⟨fun m σ H' => ∃ (F : Nat → Bool) (ch : Bool) (v5 v6 v7 v8 : Option V), σ = [some (.ref l), some (.ref z), some (.ref D), some (.ref fd), some (.bl ch), v5, v6, v7, v8, none] ∧ LB H z D fd ls F H' ∧ (∀ i, F i = true → i ∈ brs ls) ∧ (∀ G : Nat → Bool, fitsB G ls → ∀ i, F i = true → G i = true) ∧ (ch = false → Best ls F) ∧ m = 2 * cnt ls F + (if ch = true then 1 else 0), ⟨_, fun _ => false, true, none, none, none, none, rfl, ?_, (fun i z => by cases z), (fun _ _ i z => by cases z), (fun z => by cases z), rfl⟩, ?_⟩
  · refine ⟨same_put s02 nfd, ?_, ?_, [], upd_same, ?_, fun i => rfl⟩
    · rw [upd_ne zfd, s2 _ _ hz1, szs_none]
    · rw [upd_ne Dfd]; exact hDv
    · show 0 + _ ≤ _; omega
  · rintro m σ H' ⟨F, ch, v5, v6, v7, v8, rfl, lb, hsub, hmin, hbest, rfl⟩
    obtain ⟨sH, hzv, hbv, kvs, hfv, hfl, hfk⟩ := lb
    refine ⟨_, rfl, ch, rfl, ?_⟩
    cases ch with
    | false =>
      refine if_false_of rfl ?_
      have B := hbest rfl
      refine ⟨_, rfl, D, rfl, ⟨_, SqL.of hbv⟩, fun R hR => ?_⟩
      refine dc_it (walk_list (K := K) (a := D) (xs := nats (brs ls))) (fun i H3 => Same H' H3 ∧ H3 R = some (.dK (keysD (((brs ls).take i).filter F)))) ⟨same_new hR, upd_same⟩ (fun i H3 _ p => SqL.of (p.1 _ _ hbv)) (fun i x H3 H4 hi p y => ?_) (fun H3 p => ?_)
      · obtain ⟨rfl, hx⟩ := y
        obtain ⟨n, hn, rfl⟩ := nat_get hx
        refine ⟨rfl, ?_⟩
        refine ⟨_, rfl, _, rfl, fd, _, rfl, DGet.k (k := .inl (n : Int)) (p.1 _ _ hfv), _, rfl, ?_⟩
        rw [hfk n]
        have eT : ((brs ls).take (i + 1)).filter F = ((brs ls).take i).filter F ++ (if F n = true then [n] else []) := by
          rw [take_succ hn, List.filter_append]; congr 1
          rw [List.filter_cons, List.filter_nil]
        have hbl2 : (keysD (((brs ls).take i).filter F)).length ≤ 60 := by
          rw [List.length_map]
          refine Nat.le_trans (List.length_filter_le _ _) ?_
          rw [List.length_take]; omega
        cases eF : F n with
        | true =>
          refine if_true_of rfl ?_
          refine ⟨_, rfl, _, .inl (n : Int), rfl, p.2, tup_lt (by omega), fun x o e => ?_, ?_⟩
          · by_cases c : x = R
            · rw [c, hR] at e; cases e
            · rw [upd_ne c]; exact p.1 _ _ e
          · rw [upd_same, eT, eF, if_pos rfl, keysD_put]
            intro hm
            have h1 := (List.mem_filter.mp hm).1
            obtain ⟨k, hk, ek⟩ := List.getElem_of_mem h1
            rw [List.length_take] at hk
            rw [List.getElem_take] at ek
            have hil : i < (brs ls).length := by
              by_cases c : i < (brs ls).length
              · exact c
              · rw [List.getElem?_eq_none (by omega)] at hn; cases hn
            rw [List.getElem?_eq_getElem hil] at hn
            injection hn with hn
            have := List.pairwise_iff_getElem.mp (brs_sorted ls) k i (by omega) hil (by omega)
            rw [ek, hn] at this
            exact absurd this (Nat.lt_irrefl _)
        | false =>
          refine if_false_of rfl ?_
          refine ⟨p.1, ?_⟩
          rw [eT, eF, if_neg Bool.false_ne_true, List.append_nil]
          exact p.2
      · have hR0 : H R = none := by
          cases e : H R with
          | none => rfl
          | some o => rw [sH _ _ e] at hR; cases hR
        have p2 := p.2
        rw [List.length_map, List.take_length] at p2
        exact h F _ R B (Same.tr sH p.1) hR0 p2
    | true =>
      refine if_true_of rfl ⟨_, fun _ _ q => q, ?_⟩
      refine ⟨_, rfl, _, rfl, _, _, rfl, l, z, ls, szs F 0 ls, rfl, rfl, Lines.same sH ⟨as, hl, hL, hll⟩, hzv, szs_len _ _ _, szs_two _ _ _, fun H3 t a b s3 ht ha ha' hb hb' => ?_⟩
      refine ⟨t, _, rfl, SqT.of ht, rfl, _, _, rfl, _, _, rfl, rfl, ?_⟩
      have s03 : Same H H3 := Same.tr sH s3
      have za : z ≠ a := ne_of_none hzv ha
      have zb : z ≠ b := ne_of_none hzv hb
      have fa : fd ≠ a := ne_of_none hfv ha
      have fb : fd ≠ b := ne_of_none hfv hb
      refine ⟨_, rfl, D, rfl, ⟨_, SqL.of (s3 _ _ hbv)⟩, ?_⟩
      refine for_list (a := D) (xs := nats (brs ls)) (fun t σ H4 => ∃ (F' : Nat → Bool) (ch' : Bool) (v5 v8 : Option V), σ = [some (.ref l), some (.ref z), some (.ref D), some (.ref fd), some (.bl ch'), v5, some (.ref a), some (.ref b), v8, none] ∧ LB H z D fd ls F' H4 ∧ H4 a = some (.lst (nats (starts 0 (szs F 0 ls)))) ∧ H4 b = some (.dK (labs 0 ls (szs F 0 ls) [])) ∧ Look ls F F' t ∧ (ch' = false → ∀ i, F' i = true → F i = true) ∧ (ch' = true → cnt ls F' < cnt ls F)) ?_ ?_ ?_ ?_
      · exact ⟨F, false, _, _, rfl, ⟨s03, s3 _ _ hzv, s3 _ _ hbv, kvs, s3 _ _ hfv, hfl, hfk⟩, ha', hb', Look.start hsub, fun _ _ q => q, fun q => by cases q⟩
      · rintro t σ H4 _ ⟨F', ch', v5, v8, rfl, lb4, _⟩
        exact SqL.of lb4.bs
      · rintro t x σ H4 hx ⟨F', ch', v5, v8, rfl, lb4, ha4, hb4, Lk, hc1, hc2⟩
        obtain ⟨s4, hz4, hb4', kv4, hf4, hfl4, hfk4⟩ := lb4
        obtain ⟨i, hi, rfl⟩ := nat_get hx
        obtain ⟨o, g, hbr⟩ := brs_at hi
        obtain ⟨ho, j, hj⟩ := G.br i o g hbr
        obtain ⟨ai, hai, hat⟩ := hL.get i _ hbr
        obtain ⟨_, pp, hline⟩ := hat.keep (as := []) (ButL.same s4) (fun a z => by cases z)
        have hilt : i < ls.length := by
          by_cases c : i < ls.length
          · exact c
          · rw [List.getElem?_eq_none (by omega)] at hbr; cases hbr
        have hst : (nats (starts 0 (szs F 0 ls)))[i]? = some (.int (S F ls i : Int)) := by
          rw [List.getElem?_map, starts_S hilt]; rfl
        refine ⟨_, rfl, _, rfl, _, rfl, l, _, (i : Int), _, rfl, rfl, SqL.of (s4 _ _ hl), at_of (j := i) rfl (at_refs hai), ai, _, 4, _, rfl, rfl, SqT.of hline, at_of (j := 4) rfl rfl, b, .int (S F ls j : Int), rfl, (by rw [← labs_S hj]; exact DGet.k (k := .inl (g : Int)) hb4), ?_⟩
        refine ⟨_, rfl, _, rfl, a, _, (i : Int), _, rfl, rfl, SqL.of ha4, at_of (j := i) rfl hst, _, _, rfl, rfl, ?_⟩
        have ed : (S F ls j : Int) - (S F ls i : Int) = dist F ls i g := dist_eq hj
        refine ⟨_, rfl, _, rfl, fd, _, rfl, DGet.k (k := .inl (i : Int)) hf4, _, rfl, ?_⟩
        rw [hfk4 i]
        cases eF : F' i with
        | true =>
          refine if_false_of rfl (if_false_of rfl ?_)
          exact ⟨F', ch', _, _, rfl, ⟨s4, hz4, hb4', kv4, hf4, hfl4, hfk4⟩, ha4, hb4, Lk.keep hi hbr (Or.inl eF), hc1, hc2⟩
        | false =>
          refine if_true_of rfl ?_
          have hmem := mem_brs.mpr ⟨o, g, hbr⟩
          have hclt := cnt_lt hmem eF
          have hput : reach (dist F ls i g) = false → ∀ v5' v8' : V, ∃ H5 : Hp, DPut H4 fd (.int (i : Int)) (.bl true) H5 ∧ ∃ (xs : List V), H5 z = some (.lst xs) ∧ ixN xs.length (i : Int) = some i ∧
              ∃ (F' : Nat → Bool) (ch' : Bool) (v5 v8 : Option V), [some (V.ref l), some (.ref z), some (.ref D), some (.ref fd), some (.bl true), some v5', some (.ref a), some (.ref b), some v8', none] = [some (V.ref l), some (.ref z), some (.ref D), some (.ref fd), some (.bl ch'), v5, some (.ref a), some (.ref b), v8, none] ∧ LB H z D fd ls F' (upd H5 z (.lst (xs.set i (.int 2)))) ∧ (upd H5 z (.lst (xs.set i (.int 2)))) a = some (.lst (nats (starts 0 (szs F 0 ls)))) ∧ (upd H5 z (.lst (xs.set i (.int 2)))) b = some (.dK (labs 0 ls (szs F 0 ls) [])) ∧ Look ls F F' (t + 1) ∧ (ch' = false → ∀ i, F' i = true → F i = true) ∧ (ch' = true → cnt ls F' < cnt ls F) := by
            intro hr v5' v8'
            refine ⟨_, DPut.k (k := .inl (i : Int)) hf4 (tup_lt (by omega)), nats (szs F' 0 ls), by rw [upd_ne zfd]; exact hz4, ixN_at (by rw [List.length_map, szs_len]; exact hilt), fun k => decide (k = i) || F' k, true, _, _, rfl, ⟨same_put (same_put s4 nfd) hz, ?_, ?_, putK kv4 (.inl (i : Int)) (.bl true), ?_, ?_, key_put hfk4⟩, ?_, ?_, Lk.put hi hbr eF hr, (fun q => by cases q), fun _ => ?_⟩
            · rw [upd_same]
              have := szs_set (F := F') ls 0 i o g hbr
              rw [show (fun j => decide (j = 0 + i) || F' j) = (fun k => decide (k = i) || F' k) from by funext k; rw [Nat.zero_add]] at this
              rw [← this, nats_set]; rfl
            · rw [upd_ne zD.symm, upd_ne Dfd]; exact hb4'
            · rw [upd_ne zfd.symm, upd_same]
            · have := length_putK kv4 (.inl (i : Int)) (.bl true); omega
            · rw [upd_ne za.symm, upd_ne fa.symm]; exact ha4
            · rw [upd_ne zb.symm, upd_ne fb.symm]; exact hb4
            · cases ch' with
              | true => exact Nat.lt_trans hclt (hc2 rfl)
              | false =>
                have : F' = F := funext fun k => by
                  cases e1 : F' k with
                  | true => exact (hc1 rfl k e1).symm
                  | false =>
                    cases e2 : F k with
                    | true => rw [Lk.more k e2] at e1; cases e1
                    | false => rfl
                rw [this] at hclt ⊢
                exact hclt
          refine ⟨_, rfl, _, _, rfl, rfl, decide (-1024 ≤ (S F ls j : Int) - (S F ls i : Int)), rfl, ?_⟩
          by_cases c1 : -1024 ≤ (S F ls j : Int) - (S F ls i : Int)
          · refine if_true_of (decide_eq_true c1) ?_
            refine ⟨_, _, rfl, rfl, decide ((S F ls j : Int) - (S F ls i : Int) ≤ 1023), rfl, ?_⟩
            by_cases c2 : (S F ls j : Int) - (S F ls i : Int) ≤ 1023
            · rw [decide_eq_true c2]
              refine if_false_of rfl ?_
              have hr : reach (dist F ls i g) = true := by
                rw [← ed]; unfold reach; rw [decide_eq_true c1, decide_eq_true c2]; rfl
              exact ⟨F', ch', _, _, rfl, ⟨s4, hz4, hb4', kv4, hf4, hfl4, hfk4⟩, ha4, hb4, Lk.keep hi hbr (Or.inr hr), hc1, hc2⟩
            · rw [decide_eq_false c2]
              refine if_true_of rfl ?_
              have hr : reach (dist F ls i g) = false := by
                rw [← ed]; unfold reach; rw [decide_eq_false c2, Bool.and_false]
              obtain ⟨H5, q1, xs, q2, q3, q4⟩ := hput hr (.int (i : Int)) (.int ((S F ls j : Int) - (S F ls i : Int)))
              exact ⟨_, rfl, _, rfl, fd, H5, rfl, q1, _, rfl, _, rfl, z, xs, (i : Int), i, rfl, rfl, q2, q3, q4⟩
          · refine if_false_of (decide_eq_false c1) ?_
            refine ⟨false, rfl, if_true_of rfl ?_⟩
            have hr : reach (dist F ls i g) = false := by
              rw [← ed]; unfold reach; rw [decide_eq_false c1, Bool.false_and]
            obtain ⟨H5, q1, xs, q2, q3, q4⟩ := hput hr (.int (i : Int)) (.int ((S F ls j : Int) - (S F ls i : Int)))
            exact ⟨_, rfl, _, rfl, fd, H5, rfl, q1, _, rfl, _, rfl, z, xs, (i : Int), i, rfl, rfl, q2, q3, q4⟩
      · rintro σ H4 ⟨F', ch', v5, v8, rfl, lb4, ha4, hb4, Lk, hc1, hc2⟩
        rw [List.length_map] at Lk
        refine ⟨_, ?_, F', ch', _, _, _, _, rfl, lb4, Lk.sub, Lk.least hmin, fun q => ?_, rfl⟩
        · cases ch' with
          | true =>
            have := hc2 rfl
            show 2 * cnt ls F' + 1 < 2 * cnt ls F + 1
            omega
          | false =>
            have : F' = F := funext fun k => by
              cases e1 : F' k with
              | true => exact (hc1 rfl k e1).symm
              | false =>
                cases e2 : F k with
                | true => rw [Lk.more k e2] at e1; cases e1
                | false => rfl
            rw [this]
            show 2 * cnt ls F + 0 < 2 * cnt ls F + 1
            omega
        · have e : F' = F := funext fun k => by
            cases e1 : F' k with
            | true => exact (hc1 q k e1).symm
            | false =>
              cases e2 : F k with
              | true => rw [Lk.more k e2] at e1; cases e1
              | false => rfl
          have B := Lk.best hmin (hc1 q)
          rw [e]
          exact B
end
end K70

namespace K70
open PySem PyProof.Rows L2 My Ru
open Builtin (bitAnd bitOr)
/-- the words of a line, so far from its goal -/
def wordsOf (F : Nat → Bool) (ls : List Ln) (i : Nat) : Ln → List Int
  | .lab _ => []
  | .nop => [19]
  | .stop => [1048691]
  | .br o g => if F i = true then [wB (trn o) (4 * 2), wJ (4 * (dist F ls i g - 1))] else [wB o (4 * dist F ls i g)]
  | .jmp g => if size0 (.jmp g) (ls.drop (i + 1)) = 0 then [] else [wJ (4 * dist F ls i g)]
def asmTo (F : Nat → Bool) (ls : List Ln) (i : Nat) : List Int := (List.range i).flatMap fun k => wordsOf F ls k (ls.getD k .nop)
def sp__add_word (K : PySem.W.Frag) : Sp := sp2 fun x y H Q _ => ∃ (m w p q t b a : Addr) (ws : List Int) (l : Ln), x = .ref m ∧ y = .ref a ∧ Asm K H m w p q t b ws [] ∧ LnAt H a l ∧ ws.length ≤ 100000 ∧
  ((l = .nop ∧ ∀ H' : Hp, ButL [w, p] H H' → Asm K H' m w p q t b (ws ++ [19]) [] → Q .non H') ∨
   (l = .stop ∧ ∀ (H' : Hp) (e : Addr), ButL [w, p, t] H H' → H' e = some (.tup [.int (ws.length : Int), .str "told"]) → Asm K H' m w p q t b (ws ++ [1048691]) [.ref e] → Q .non H'))
def sp__add_branch (K : PySem.W.Frag) : Sp := sp4 fun x y z u H Q _ => ∃ (m w p q t b a : Addr) (ws : List Int) (o g : Nat) (d : Int) (s : Nat), x = .ref m ∧ y = .ref a ∧ z = .int d ∧ u = .int (s : Int) ∧ Asm K H m w p q t b ws [] ∧ LnAt H a (.br o g) ∧ ws.length ≤ 90000 ∧ -90000 ≤ d ∧ d ≤ 90000 ∧
  (s = 1 → reach d = true) ∧ ∀ H' : Hp, ButL [w, p] H H' → Asm K H' m w p q t b (ws ++ (if s = 1 then [wB o (4 * d)] else [wB (trn o) (4 * 2), wJ (4 * (d - 1))])) [] → Q .non H'
section
variable {P : Program} {w : World} {K : PySem.W.Frag} {mg : Str → Option Value} {base : Heap}
theorem sc__add_word : FnScope ["made", "line", "at", "_", "instruction", "place", "patch", "trap"] ["made", "line"] (defScope s__add_word) := ⟨rfl, rfl, rfl, by decide +kernel, rfl, by decide +kernel, by decide +kernel⟩
theorem g__add_word (T : Txt K mg w) (G_Assembled_word : Gm P w K mg base CX0 5 (He.ga K "Assembled") "word" ["self", "instruction", "place"] (sp_Assembled_word K)) : Gd P w K mg base CX0 6 "_add_word" ["made", "line"] (sp__add_word K) := by
  have sc := sc__add_word
  refine T.d__add_word.ok sc len2 (fun _ _ _ _ _ _ us hl => match us, hl with | [_, _], _ => rfl) (fun f cdv A outer s H vs Q E hr h => ?_)
  obtain ⟨x0, x1, rfl, h⟩ := h
  obtain ⟨m, w', p, q, t, b, a, ws, ln, rfl, rfl, A0, hat, hl, h⟩ := h
  refine ⟨_, (pss_cons (ps_asg (pv 1) (pg_tup rfl (pgs_cons (pg_name (i := 3) sc.nd rfl (Or.inl rfl)) (pgs_cons (pg_name (i := 4) sc.nd rfl (Or.inl rfl)) (pgs_cons (pg_name (i := 5) sc.nd rfl (Or.inl rfl)) (pgs_cons (pg_name (i := 6) sc.nd rfl (Or.inl rfl)) (pgs_cons (pg_name (i := 7) sc.nd rfl (Or.inl rfl)) pgs_nil)))))))
      (pss_cons (ps_set (i := 2) sc.nd rfl (Or.inl rfl) (pe_callB call_len_seq (by rfl) T.n_len PySem.boot_len (pa_cons (pe_fld (pv 0) rfl) pa_nil)))
      (pss_cons (ps_if (pt_cmpR op_notN (pv 6) pe_non (nomark _)) (pss_one (ps_expr (pe_bm PySem.F.plainAttrs_list PySem.F.slot_list_append PySem.F.type_list_append mt_append (pe_fld (pv 0) rfl) (pa_cons (pe_op op_catT (pe_tup (pa_cons (pv 2) pa_nil)) (pe_callTy call_tuple_of (by rfl) T.n_tuple (by decide +kernel) (pa_cons (pv 6) pa_nil))) pa_nil)))) pss_nil)
      (pss_cons (ps_if (pt_cmpR op_notN (pv 7) pe_non (nomark _)) (pss_one (ps_expr (pe_bm PySem.F.plainAttrs_list PySem.F.slot_list_append PySem.F.type_list_append mt_append (pe_fld (pv 0) rfl) (pa_cons (pe_tup (pa_cons (pv 2) (pa_cons (pv 7) pa_nil))) pa_nil)))) pss_nil)
      (pss_one (ps_expr (pe_gm (pv 0) T.cl_Assembled.c G_Assembled_word (hr.mono (by omega)) pass0 (pa_cons (pe_callTy call_tuple_of (by rfl) T.n_tuple (by decide +kernel) (pa_cons (pv 4) pa_nil)) (pa_cons (pv 5) pa_nil))))))))), ?_⟩
  obtain ⟨⟨dx, hm⟩, hw, ⟨ps, hp, hpl⟩, hq, ht, wp, wq, wt, pq, pt, qt⟩ := id A0
  rcases h with ⟨rfl, h⟩ | ⟨rfl, h⟩
  · obtain ⟨ti, pp, ha, hti⟩ := hat
    refine ⟨_, rfl, a, _, rfl, SqT.of ha, rfl, _, _, rfl, _, _, rfl, _, _, rfl, _, _, rfl, _, _, rfl, rfl, ?_⟩
    refine ⟨_, rfl, m, CA K, dx, _, _, rfl, hm, T.cl_Assembled.c, T.na_Assembled_words, aFw _ _ _ _ _, w', _, rfl, Or.inl (SqL.of hw), ?_⟩
    refine ⟨_, rfl, rfl, _, rfl, if_false_of rfl ?_⟩
    refine ⟨_, rfl, rfl, _, rfl, if_false_of rfl ?_⟩
    refine ⟨_, rfl, m, dx, _, rfl, hm, aFm _ _ _ _ _, _, rfl, ti, _, rfl, Or.inr ⟨SqT.of hti, _, rfl, ?_⟩⟩
    exact ⟨_, _, _, rfl, m, w', p, q, t, b, ti, ws, [], .addi, rfl, rfl, A0, hti, trivial, hl, fun H' b1 A1 => h H' b1 A1⟩
  · obtain ⟨ti, pp, ha, hti⟩ := hat
    refine ⟨_, rfl, a, _, rfl, SqT.of ha, rfl, _, _, rfl, _, _, rfl, _, _, rfl, _, _, rfl, _, _, rfl, rfl, ?_⟩
    refine ⟨_, rfl, m, CA K, dx, _, _, rfl, hm, T.cl_Assembled.c, T.na_Assembled_words, aFw _ _ _ _ _, w', _, rfl, Or.inl (SqL.of hw), ?_⟩
    refine ⟨_, rfl, rfl, _, rfl, if_false_of rfl ?_⟩
    refine ⟨_, rfl, rfl, _, rfl, if_true_of rfl ?_⟩
    refine ⟨_, rfl, m, CA K, dx, _, _, rfl, hm, T.cl_Assembled.c, T.na_Assembled_traps, aFt _ _ _ _ _, ty_lst ht, _, rfl, _, rfl, (by show 2 ≤ sizeLine; decide), fun e he => ?_⟩
    have me : m ≠ e := ne_of_none hm he
    have we : w' ≠ e := ne_of_none hw he
    have pe' : p ≠ e := ne_of_none hp he
    have qe : q ≠ e := ne_of_none hq he
    have te : t ≠ e := ne_of_none ht he
    have mt : m ≠ t := ne_of hm ht (by intro z; cases z)
    refine ⟨t, _, _, rfl, rfl, (by rw [upd_ne te]; exact ht), (by show 0 < sizeLine; decide), ?_⟩
    have hti' : ∀ {H0 : Hp} {o1 o2 : HO}, H0 = upd (upd H e o1) t o2 → H0 ti = some (.tup [.str "ebreak", .int 0, .int 0, .int 0]) := fun {H0 o1 o2} z => by
      rw [z, upd_ne (ne_of hti ht (by intro z; cases z)), upd_ne (ne_of_none hti he)]; exact hti
    refine ⟨_, rfl, m, dx, _, rfl, (by rw [upd_ne mt, upd_ne me]; exact hm), aFm _ _ _ _ _, _, rfl, ti, _, rfl, Or.inr ⟨SqT.of (hti' rfl), _, rfl, ?_⟩⟩
    refine ⟨_, _, _, rfl, m, w', p, q, t, b, ti, ws, [.ref e], .ebreak, rfl, rfl, ⟨⟨dx, by rw [upd_ne mt, upd_ne me]; exact hm⟩, by rw [upd_ne wt, upd_ne we]; exact hw, ⟨ps, by rw [upd_ne pt, upd_ne pe']; exact hp, hpl⟩, by rw [upd_ne qt, upd_ne qe]; exact hq, upd_same, wp, wq, wt, pq, pt, qt⟩, hti' rfl, trivial, hl, fun H' b1 A1 => h H' e (fun x o ex n => ?_) ?_ A1⟩
    · refine b1 _ _ ?_ (fun z => n ?_)
      · rw [upd_ne (fun z => n (by simp [z])), upd_ne (ne_of_none ex he)]; exact ex
      · have z2 : x = w' ∨ x = p := by simpa using z
        rcases z2 with z2 | z2 <;> simp [z2]
    · refine b1 _ _ ?_ (fun z => ?_)
      · rw [upd_ne te.symm, upd_same, List.length_map]
      · have z2 : e = w' ∨ e = p := by simpa using z
        rcases z2 with z2 | z2
        · exact we z2.symm
        · exact pe' z2.symm
theorem sc__add_branch : FnScope ["made", "line", "distance", "size", "_", "name", "one", "other", "place"] ["made", "line", "distance", "size"] (defScope s__add_branch) := ⟨rfl, rfl, rfl, by decide +kernel, rfl, by decide +kernel, by decide +kernel⟩
theorem g__add_branch (T : Txt K mg w) (G_Assembled_word : Gm P w K mg base CX0 5 (He.ga K "Assembled") "word" ["self", "instruction", "place"] (sp_Assembled_word K)) : Gd P w K mg base CX0 6 "_add_branch" ["made", "line", "distance", "size"] (sp__add_branch K) := by
  have sc := sc__add_branch
  refine T.d__add_branch.ok sc len4 (fun _ _ _ _ _ _ us hl => match us, hl with | [_, _, _, _], _ => rfl) (fun f cdv A outer s H vs Q E hr h => ?_)
  obtain ⟨x0, x1, x2, x3, rfl, h⟩ := h
  obtain ⟨m, w', p, q, t, b, a, ws, o, g, d, s, rfl, rfl, rfl, rfl, A0, ⟨ho, pp, ha⟩, hl, hd1, hd2, hs, h⟩ := h
  refine ⟨_, (pss_cons (ps_asg (pv 1) (pg_tup rfl (pgs_cons (pg_name (i := 4) sc.nd rfl (Or.inl rfl)) (pgs_cons (pg_name (i := 5) sc.nd rfl (Or.inl rfl)) (pgs_cons (pg_name (i := 6) sc.nd rfl (Or.inl rfl)) (pgs_cons (pg_name (i := 7) sc.nd rfl (Or.inl rfl)) (pgs_cons (pg_name (i := 4) sc.nd rfl (Or.inl rfl)) (pgs_cons (pg_name (i := 8) sc.nd rfl (Or.inl rfl)) pgs_nil))))))))
      (pss_one (ps_if (pt_cmpR op_eq (pv 3) pe_int (nomark _)) (pss_one (ps_expr (pe_gm (pv 0) T.cl_Assembled.c G_Assembled_word (hr.mono (by omega)) pass0 (pa_cons (pe_tup (pa_cons (pv 5) (pa_cons (pv 6) (pa_cons (pv 7) (pa_cons (pe_op op_mul (pe_gint T.c_BYTES) (pv 2)) pa_nil))))) (pa_cons (pv 8) pa_nil))))) (pss_cons (ps_expr (pe_gm (pv 0) T.cl_Assembled.c G_Assembled_word (hr.mono (by omega)) pass0 (pa_cons (pe_tup (pa_cons (pe_ix ix_kdict (pe_gref T.c_TURNED) (pv 5) (fun _ _ => rfl)) (pa_cons (pv 6) (pa_cons (pv 7) (pa_cons (pe_op op_mul pe_int (pe_gint T.c_BYTES)) pa_nil))))) (pa_cons (pv 8) pa_nil))))
      (pss_one (ps_expr (pe_gm (pv 0) T.cl_Assembled.c G_Assembled_word (hr.mono (by omega)) pass0 (pa_cons (pe_tup (pa_cons pe_str (pa_cons pe_int (pa_cons (pe_op op_mul (pe_gint T.c_BYTES) (pe_op op_sub (pv 2) pe_int)) (pa_cons pe_int pa_nil))))) (pa_cons (pv 8) pa_nil))))))))), ?_⟩
  obtain ⟨⟨dx, hm⟩, hw, ⟨ps, hp, hpl⟩, hq, ht, wp, wq, wt, pq, pt, qt⟩ := id A0
  refine ⟨_, rfl, a, _, rfl, SqT.of ha, rfl, _, _, rfl, _, _, rfl, _, _, rfl, _, _, rfl, _, _, rfl, _, _, rfl, rfl, ?_⟩
  refine ⟨_, rfl, rfl, _, rfl, ?_⟩
  by_cases c : s = 1
  · subst c
    refine if_true_of rfl ?_
    rw [if_pos rfl] at h
    have hr := hs rfl
    unfold reach at hr
    rw [Bool.and_eq_true, decide_eq_true_eq, decide_eq_true_eq] at hr
    refine ⟨_, rfl, m, dx, _, rfl, hm, aFm _ _ _ _ _, _, rfl, _, rfl, _, rfl, _, rfl, _, _, rfl, rfl, Or.inl ⟨by decide, by decide⟩, (by show 4 ≤ sizeLine; decide), fun e he => ⟨_, rfl, ?_⟩⟩
    exact ⟨_, _, _, rfl, m, w', p, q, t, b, e, ws, [], .br o d, rfl, rfl, A0.same (same_new he), upd_same, ⟨ho, hr.1, hr.2⟩, Nat.le_trans hl (by decide), fun H' b1 A1 => h H' (fun x o' ex n => b1 _ _ (by rw [upd_ne (ne_of_none ex he)]; exact ex) n) A1⟩
  · refine if_false_of (decide_eq_false (fun z => c (by injection z with z; omega))) ?_
    rw [if_neg c] at h
    refine ⟨_, rfl, m, dx, _, rfl, hm, aFm _ _ _ _ _, _, rfl, _, _, _, rfl, rfl, T.t_TURNED o ho, _, rfl, _, rfl, _, _, rfl, rfl, Or.inl ⟨by decide, by decide⟩, (by show 4 ≤ sizeLine; decide), fun e he => ⟨_, rfl, ?_⟩⟩
    refine ⟨_, _, _, rfl, m, w', p, q, t, b, e, ws, [], .br (trn o) 2, rfl, rfl, A0.same (same_new he), upd_same, ⟨trn_ok o ho, by decide, by decide⟩, Nat.le_trans hl (by decide), fun H1 b1 A1 => ?_⟩
    obtain ⟨⟨dx1, hm1⟩, _⟩ := id A1
    refine ⟨_, rfl, m, dx1, _, rfl, hm1, aFm _ _ _ _ _, _, rfl, _, _, rfl, rfl, _, _, rfl, rfl, Or.inl ⟨by decide, by decide⟩, (by show 4 ≤ sizeLine; decide), fun e1 he1 => ⟨_, rfl, ?_⟩⟩
    refine ⟨_, _, _, rfl, m, w', p, q, t, b, e1, _, [], .jal (d - 1), rfl, rfl, A1.same (same_new he1), upd_same, ⟨by omega, by omega⟩, (by rw [List.length_append]; show ws.length + 1 ≤ _; omega), fun H2 b2 A2 => h H2 (fun x o' ex n => b2 _ _ (by rw [upd_ne (ne_of_none (b1 _ _ (by rw [upd_ne (ne_of_none ex he)]; exact ex) n) he1)]; exact b1 _ _ (by rw [upd_ne (ne_of_none ex he)]; exact ex) n) n) ?_⟩
    rw [List.append_assoc] at A2
    exact A2
end
end K70

namespace K70
open PySem PyProof.Rows L2 My Ru
open Builtin (bitAnd bitOr)
def sp_assembled (K : PySem.W.Frag) : Sp := sp1 fun x H Q _ => ∃ (l : Addr) (ls : List Ln), x = .ref l ∧ Lines H l ls ∧ GoodL ls ∧
  ∀ (F : Nat → Bool) (H' : Hp) (m w p q t b e : Addr), Best ls F → Same H H' → Asm K H' m w p q t b (asmTo F ls ls.length) [.ref e] → H' b = some (.dK (labs 0 ls (szs F 0 ls) [])) →
    H' e = some (.tup [.int (S F ls (ls.length - 1) : Int), .str "told"]) → Q (.ref m) H'
theorem szs_get {F : Nat → Bool} : ∀ (ls : List Ln) (b i : Nat) (l : Ln), ls[i]? = some l → (szs F b ls)[i]? = some (if (isBr l && F (b + i)) = true then 2 else size0 l (ls.drop (i + 1)))
  | [], _, i, l, h => by simp at h
  | x :: r, b, 0, l, h => by
    injection h with h
    subst h
    simp [szs]
  | x :: r, b, i + 1, l, h => by
    simp only [szs, List.getElem?_cons_succ, List.drop_succ_cons]
    rw [szs_get r (b + 1) i l h, show b + 1 + i = b + (i + 1) by omega]
theorem S_succ {F : Nat → Bool} {ls : List Ln} {i : Nat} {l : Ln} (h : ls[i]? = some l) : S F ls (i + 1) = S F ls i + (if (isBr l && F i) = true then 2 else size0 l (ls.drop (i + 1))) := by
  unfold S
  rw [take_succ (by rw [szs_get ls 0 i l h, Nat.zero_add]), List.sum_append]
  simp
theorem S_le (F : Nat → Bool) (ls : List Ln) : ∀ i, S F ls i ≤ 2 * i
  | 0 => by simp [S]
  | i + 1 => by
    have ih := S_le F ls i
    unfold S at *
    rw [sum_take_succ]
    cases e : (szs F 0 ls)[i]? with
    | none => simp; omega
    | some s =>
      have := szs_two F ls 0 s (List.mem_of_getElem? e)
      simp; omega
theorem wj0 {F : Nat → Bool} {ls : List Ln} {i g : Nat} (c : size0 (.jmp g) (ls.drop (i + 1)) = 0) : wordsOf F ls i (.jmp g) = [] := if_pos c
theorem wj1 {F : Nat → Bool} {ls : List Ln} {i g : Nat} (c : ¬ size0 (.jmp g) (ls.drop (i + 1)) = 0) : wordsOf F ls i (.jmp g) = [wJ (4 * dist F ls i g)] := if_neg c
theorem words_len {F : Nat → Bool} {ls : List Ln} {i : Nat} {l : Ln} : (wordsOf F ls i l).length = (if (isBr l && F i) = true then 2 else size0 l (ls.drop (i + 1))) := by
  cases l with
  | br o g =>
    unfold wordsOf
    cases e : F i <;> simp [isBr, size0]
  | jmp g =>
    by_cases c : size0 (.jmp g) (ls.drop (i + 1)) = 0
    · rw [wj0 c, c]; rfl
    · rw [wj1 c]
      have : size0 (.jmp g) (ls.drop (i + 1)) = 1 := by
        unfold size0 at *
        split at * <;> simp_all
      rw [this]; rfl
  | _ => rfl
theorem asm_succ {F : Nat → Bool} {ls : List Ln} {i : Nat} {l : Ln} (h : ls[i]? = some l) : asmTo F ls (i + 1) = asmTo F ls i ++ wordsOf F ls i l := by
  unfold asmTo
  rw [List.range_succ, List.flatMap_append]
  simp [h]
theorem asm_len {F : Nat → Bool} {ls : List Ln} : ∀ i, i ≤ ls.length → (asmTo F ls i).length = S F ls i
  | 0, _ => by simp [asmTo, S]
  | i + 1, h => by
    have e : ls[i]? = some ls[i] := List.getElem?_eq_getElem (by omega)
    rw [asm_succ e, List.length_append, asm_len i (by omega), S_succ e, words_len]
theorem not_last {ls : List Ln} (G : GoodL ls) {i : Nat} {l : Ln} (h : ls[i]? = some l) (n : l ≠ .stop) : i + 1 < ls.length := by
  obtain ⟨pre, e, _⟩ := G.last
  subst e
  by_cases c : i < pre.length
  · simp; omega
  · by_cases c2 : i = pre.length
    · subst c2
      simp at h
      exact absurd h.symm n
    · rw [List.getElem?_eq_none (by simp; omega)] at h; cases h
theorem is_last {ls : List Ln} (G : GoodL ls) {i : Nat} (h : ls[i]? = some .stop) : i + 1 = ls.length := by
  obtain ⟨pre, e, q⟩ := G.last
  subst e
  by_cases c : i < pre.length
  · rw [List.getElem?_append_left c] at h
    exact absurd rfl (q _ (List.mem_of_getElem? h))
  · by_cases c2 : i = pre.length
    · simp [c2]
    · rw [List.getElem?_eq_none (by simp; omega)] at h; cases h
section
variable {P : Program} {w : World} {K : PySem.W.Frag} {mg : Str → Option Value} {base : Heap}
theorem sc_assembled : FnScope ["lines", "sizes", "at", "made", "starts", "labels", "line", "start", "size"] ["lines"] (defScope s_assembled) := ⟨rfl, rfl, rfl, by decide +kernel, rfl, by decide +kernel, by decide +kernel⟩
theorem g_assembled (T : Txt K mg w) (G__sizes_of : Gd P w K mg base CX0 1 "_sizes_of" ["lines"] (sp__sizes_of K)) (G_long_branches : Gd P w K mg base CX0 2 "long_branches" ["lines"] (sp_long_branches K)) (G__starts_of : Gd P w K mg base CX0 1 "_starts_of" ["lines", "sizes"] (sp__starts_of K)) (G_Assembled___init__ : Gm P w K mg base CX0 1 (He.ga K "Assembled") "__init__" ["self"] (sp_Assembled___init__ K)) (G__add_word : Gd P w K mg base CX0 6 "_add_word" ["made", "line"] (sp__add_word K)) (G__add_branch : Gd P w K mg base CX0 6 "_add_branch" ["made", "line", "distance", "size"] (sp__add_branch K)) (G_Assembled_word : Gm P w K mg base CX0 5 (He.ga K "Assembled") "word" ["self", "instruction", "place"] (sp_Assembled_word K)) : Gd P w K mg base CX0 7 "assembled" ["lines"] (sp_assembled K) := by
  have sc := sc_assembled
  refine T.d_assembled.ok sc len1 (fun _ _ _ _ _ _ us hl => match us, hl with | [_], _ => rfl) (fun f cdv A outer s H vs Q E hr h => ?_)
  obtain ⟨x0, rfl, h⟩ := h
  obtain ⟨l, ls, rfl, L, G, h⟩ := h
  refine ⟨_, (pss_cons (ps_set (i := 1) sc.nd rfl (Or.inl rfl) (pe_g G__sizes_of (hr.mono (by omega)) pass0 (pa_cons (pv 0) pa_nil)))
      (pss_cons (ps_for PassesOwn.never rfl (pi_keys (Kg.pe_locked (pe_g G_long_branches (hr.mono (by omega)) pass0 (pa_cons (pv 0) pa_nil)))) (pg_name (i := 2) sc.nd rfl (Or.inl rfl)) (pss_one (ps_asg pe_int (pg_sub (pv 1) (pv 2) set_list))))
      (pss_cons (ps_asg (pe_g G__starts_of (hr.mono (by omega)) pass0 (pa_cons (pv 0) (pa_cons (pv 1) pa_nil))) (pg_tup rfl (pgs_cons (pg_name (i := 4) sc.nd rfl (Or.inl rfl)) (pgs_cons (pg_name (i := 5) sc.nd rfl (Or.inl rfl)) pgs_nil))))
      (pss_cons (ps_set (i := 3) sc.nd rfl (Or.inl rfl) (Ru.pe_mkG0 G_Assembled___init__ T.mk_Assembled T.cl_Assembled.g (hr.mono (by omega)) pass0))
      (pss_cons (ps_fld (pv 3) (pv 5) rfl)
      (pss_cons (ps_for PassesOwn.never rfl (Zp.pi_zip3 (by rfl) T.n_zip (pa_cons (pv 0) (pa_cons (pv 4) (pa_cons (pv 1) pa_nil)))) (pg_tup rfl (pgs_cons (pg_name (i := 6) sc.nd rfl (Or.inl rfl)) (pgs_cons (pg_name (i := 7) sc.nd rfl (Or.inl rfl)) (pgs_cons (pg_name (i := 8) sc.nd rfl (Or.inl rfl)) pgs_nil)))) (pss_one (ps_if (pt_cmpR op_eq (pe_ix ix_tup (pv 6) pe_int (fun _ _ => rfl)) pe_str (nomark _)) (pss_one (ps_expr (pe_g G__add_word (hr.mono (by omega)) pass0 (pa_cons (pv 3) (pa_cons (pv 6) pa_nil))))) (pss_one (ps_if (pt_cmpR op_eq (pe_ix ix_tup (pv 6) pe_int (fun _ _ => rfl)) pe_str (nomark _)) (pss_one (ps_expr (pe_g G__add_branch (hr.mono (by omega)) pass0 (pa_cons (pv 3) (pa_cons (pv 6) (pa_cons (pe_op op_sub (pe_dget (hu_of hr) (pv 5) (pe_ix ix_tup (pv 6) pe_int (fun _ _ => rfl)) (fun _ _ => rfl)) (pv 7)) (pa_cons (pv 8) pa_nil))))))) (pss_one (ps_if (PW.pt (pw_and (pt_cmpR op_eq (pe_ix ix_tup (pv 6) pe_int (fun _ _ => rfl)) pe_str (nomark _)) (pw_and1 (pt_cmpR op_gt (pv 8) pe_int (nomark _))))) (pss_one (ps_expr (pe_gm (pv 3) T.cl_Assembled.c G_Assembled_word (hr.mono (by omega)) pass0 (pa_cons (pe_tup (pa_cons pe_str (pa_cons pe_int (pa_cons (pe_op op_mul (pe_gint T.c_BYTES) (pe_op op_sub (pe_dget (hu_of hr) (pv 5) (pe_ix ix_tup (pv 6) pe_int (fun _ _ => rfl)) (fun _ _ => rfl)) (pv 7))) (pa_cons pe_int pa_nil))))) (pa_cons (pe_ix ix_tup (pv 6) pe_int (fun _ _ => rfl)) pa_nil))))) pss_nil)))))))
      (pss_one (ps_ret (pv 3))))))))), ?_⟩
  obtain ⟨as, hl, hL, hll⟩ := id L
  have hal := hL.len
  refine ⟨_, rfl, _, rfl, l, ls, rfl, L, fun H1 z s1 hz hz1 => ?_⟩
  refine ⟨_, rfl, _, rfl, l, ls, rfl, Lines.same s1 L, G, fun F H2 d B s2 hd hd2 => ⟨d, _, rfl, hd2, trivial, fun o => ⟨d, o, rfl, Or.inl ⟨_, upd_same, ?_⟩⟩⟩⟩
  have nd : H d = none := by
    cases e : H d with
    | none => rfl
    | some o => rw [s1 _ _ e] at hd; cases hd
  have zd : z ≠ d := ne_of_none hz1 hd
  generalize hbs : (brs ls).filter F = bs at *
  have hbl : bs.length ≤ 60 := by
    rw [← hbs]; exact Nat.le_trans (List.length_filter_le _ _) G.few
  refine for_it (walk_keys (d := d) (o := o) (kvs := keysD bs)) (fun i σ H3 => ∃ v2 : Option V, σ = [some (.ref l), some (.ref z), v2, none, none, none, none, none, none] ∧ Same H H3 ∧ H3 d = some (.frz o (.dK (keysD bs))) ∧ H3 z = some (.lst (nats (szs (fun j => decide (j ∈ bs.take i)) 0 ls)))) ?_ ?_ ?_ ?_
  · refine ⟨_, rfl, same_put (Same.tr s1 s2) nd, upd_same, ?_⟩
    rw [upd_ne zd, s2 _ _ hz1, ← szs_none ls 0]
    rfl
  · rintro i σ H3 _ ⟨v2, rfl, s3, hd3, hz3⟩
    exact hd3
  · rintro i x σ H3 H4 hi ⟨v2, rfl, s3, hd3, hz3⟩ ⟨rfl, k, v, hkv, rfl⟩
    rw [List.getElem?_map] at hkv
    cases en : bs[i]? with
    | none => rw [en] at hkv; cases hkv
    | some n =>
      rw [en] at hkv
      injection hkv with hkv
      injection hkv with hk hv
      subst hk
      have hm : n ∈ brs ls := (List.mem_filter.mp (by rw [hbs]; exact List.mem_of_getElem? en : n ∈ (brs ls).filter F)).1
      obtain ⟨op, g, hbr⟩ := mem_brs.mp hm
      have hn : n < ls.length := by
        by_cases c : n < ls.length
        · exact c
        · rw [List.getElem?_eq_none (by omega)] at hbr; cases hbr
      refine ⟨_, rfl, _, rfl, z, _, (n : Int), n, rfl, rfl, hz3, ixN_at (by rw [List.length_map, szs_len]; exact hn), ?_⟩
      refine ⟨_, rfl, same_put s3 hz, by rw [upd_ne zd.symm]; exact hd3, ?_⟩
      rw [upd_same, show V.int 2 = V.int ((2 : Nat) : Int) from rfl, ← nats_set, szs_set ls 0 n op g hbr]
      have : (fun j => decide (j = 0 + n) || decide (j ∈ bs.take i)) = (fun j => decide (j ∈ bs.take (i + 1))) := by
        funext j
        rw [take_succ en, Nat.zero_add, ← Bool.decide_or]
        congr 1
        simp [or_comm]
      rw [this]
  · rintro σ H3 ⟨v2, rfl, s3, hd3, hz3⟩
    have eF : (fun j => decide (j ∈ bs.take (keysD bs).length)) = F := by
      funext j
      rw [List.length_map, List.take_length, ← hbs]
      cases e : F j with
      | true => exact decide_eq_true (List.mem_filter.mpr ⟨B.sub j e, e⟩)
      | false => exact decide_eq_false (fun q => by rw [(List.mem_filter.mp q).2] at e; cases e)
    rw [eF] at hz3
    refine ⟨_, rfl, _, rfl, _, _, rfl, l, z, ls, szs F 0 ls, rfl, rfl, Lines.same s3 L, hz3, szs_len _ _ _, szs_two _ _ _, fun H4 t a b s4 ht ha ha' hb hb' => ?_⟩
    refine ⟨t, _, rfl, SqT.of ht, rfl, _, _, rfl, _, _, rfl, rfl, ?_⟩
    have s04 : Same H H4 := Same.tr s3 s4
    intro m dx hm hdx ndx
    refine ⟨_, rfl, m, dx, rfl, upd_same, fun H5 w' p q t2 b0 b5 A5 hb0 nw np nt => ⟨rfl, ?_⟩⟩
    have k45 : ∀ {y : Addr} {o' : HO}, H4 y = some o' → H5 y = some o' := fun {y o'} e => by
      have ym : y ≠ m := ne_of_none e hm
      exact b5 _ _ (by rw [upd_ne ym, upd_ne (ne_of_none e hdx)]; exact e) (by simpa using ym)
    have fresh : ∀ {y : Addr} {o' : HO}, H4 y = some o' → y ≠ m ∧ y ≠ w' ∧ y ≠ p ∧ y ≠ t2 := fun {y o'} e => by
      have ym : y ≠ m := ne_of_none e hm
      have e2 : (upd (upd H4 dx (.own m)) m (.ins (CA K) dx [])) y = some o' := by rw [upd_ne ym, upd_ne (ne_of_none e hdx)]; exact e
      exact ⟨ym, ne_of_none e2 nw, ne_of_none e2 np, ne_of_none e2 nt⟩
    have hFresh : ∀ {y : Addr} {o' : HO}, H y = some o' → y ≠ m ∧ y ≠ w' ∧ y ≠ p ∧ y ≠ t2 := fun {y o'} e => fresh (s04 _ _ e)
    obtain ⟨⟨dx5, hm5⟩, hw5, ⟨ps5, hp5, hpl5⟩, hq5, ht5, wp, wq, wt, pq, pt, qt⟩ := id A5
    have A6 : Asm K (upd H5 m (.ins (CA K) dx5 (aF w' p q t2 b))) m w' p q t2 b [] [] := by
      have mw : m ≠ w' := ne_of hm5 hw5 (by intro z; cases z)
      have mp : m ≠ p := ne_of hm5 hp5 (by intro z; cases z)
      have mq : m ≠ q := ne_of hm5 hq5 (by intro z; cases z)
      have mt : m ≠ t2 := ne_of hm5 ht5 (by intro z; cases z)
      exact ⟨⟨dx5, upd_same⟩, by rw [upd_ne mw.symm]; exact hw5, ⟨ps5, by rw [upd_ne mp.symm]; exact hp5, hpl5⟩, by rw [upd_ne mq.symm]; exact hq5, by rw [upd_ne mt.symm]; exact ht5, wp, wq, wt, pq, pt, qt⟩
    refine ⟨_, rfl, _, rfl, m, CA K, dx5, _, rfl, hm5, T.cl_Assembled.c, T.na_Assembled_labels, (by show 5 < 1000; decide), ?_⟩
    rw [aF6]
    have k46 : ∀ {y : Addr} {o' : HO}, H4 y = some o' → upd H5 m (.ins (CA K) dx5 (aF w' p q t2 b)) y = some o' := fun {y o'} e => by
      rw [upd_ne (fresh e).1]; exact k45 e
    have ha6 := k46 ha'
    have hb6 := k46 hb'
    have hz6 := k46 (s4 _ _ hz3)
    have s06 : Same H (upd H5 m (.ins (CA K) dx5 (aF w' p q t2 b))) := fun y o' e => k46 (s04 _ _ e)
    generalize upd H5 m (.ins (CA K) dx5 (aF w' p q t2 b)) = H6 at *
    refine ⟨_, rfl, _, rfl, _, rfl, l, a, z, as.map V.ref, nats (starts 0 (szs F 0 ls)), nats (szs F 0 ls), rfl, SqL.of (s06 _ _ hl), SqL.of ha6, SqL.of hz6, ?_⟩
    have hn : 0 < ls.length := by
      obtain ⟨pre, e, _⟩ := G.last
      rw [e]; simp
    refine for_it (Zp.walk3 (K := K) (a := l) (b := a) (c := z) (xs := as.map V.ref) (ys := nats (starts 0 (szs F 0 ls))) (zs := nats (szs F 0 ls)) (by rw [List.length_map, List.length_map, starts_len, szs_len, hal]) (by rw [List.length_map, List.length_map, szs_len, hal])) (fun i σ H' => ∃ v6 v7 v8 : Option V, σ = [some (.ref l), some (.ref z), v2, some (.ref m), some (.ref a), some (.ref b), v6, v7, v8] ∧ Same H H' ∧ H' a = some (.lst (nats (starts 0 (szs F 0 ls)))) ∧ H' z = some (.lst (nats (szs F 0 ls))) ∧ H' b = some (.dK (labs 0 ls (szs F 0 ls) [])) ∧
      ((i < ls.length ∧ Asm K H' m w' p q t2 b (asmTo F ls i) []) ∨ (i = ls.length ∧ ∃ e, Asm K H' m w' p q t2 b (asmTo F ls i) [.ref e] ∧ H' e = some (.tup [.int (S F ls (ls.length - 1) : Int), .str "told"])))) ?_ ?_ ?_ ?_
    · exact ⟨_, _, _, rfl, s06, ha6, hz6, hb6, Or.inl ⟨hn, A6⟩⟩
    · rintro i σ H' _ ⟨v6, v7, v8, rfl, s7, ha7, hz7, hb7, _⟩
      exact ⟨SqL.of (s7 _ _ hl), SqL.of ha7, SqL.of hz7⟩
    · rintro i x σ H' H'' hi ⟨v6, v7, v8, rfl, s7, ha7, hz7, hb7, hA⟩ ⟨Tt, x1, x2, x3, rfl, hT, rfl, e1, e2, e3⟩
      rw [List.length_map, hal] at hi
      have A7 : Asm K H' m w' p q t2 b (asmTo F ls i) [] := by
        rcases hA with ⟨_, q⟩ | ⟨q, _⟩
        · exact q
        · exact absurd q (by omega)
      obtain ⟨ai, hai, rfl⟩ := ref_get e1
      obtain ⟨n2, hn2, rfl⟩ := nat_get e2
      obtain ⟨n3, hn3, rfl⟩ := nat_get e3
      obtain ⟨ln, hln, hat⟩ := hL.at hai
      rw [starts_S hi] at hn2
      injection hn2 with hn2
      subst hn2
      rw [szs_get ls 0 i ln hln, Nat.zero_add] at hn3
      injection hn3 with hn3
      have sT : Same H' (upd H' Tt (.tup [.ref ai, .int (S F ls i : Int), .int (n3 : Int)])) := same_new hT
      have s8 := Same.tr s7 sT
      have A8 := A7.same sT
      have ha8 := sT _ _ ha7
      have hz8 := sT _ _ hz7
      have hb8 := sT _ _ hb7
      generalize hH8 : upd H' Tt (.tup [.ref ai, .int (S F ls i : Int), .int (n3 : Int)]) = H8 at *
      have hTt : H8 Tt = some (.tup [.ref ai, .int (S F ls i : Int), .int (n3 : Int)]) := by rw [← hH8]; exact upd_same
      have hat8 := hat.keep (as := []) (ButL.same s8) (fun a z => by cases z)
      obtain ⟨xs', hf⟩ := hat8.first
      have hal2 : (asmTo F ls i).length ≤ 12000 := by
        rw [asm_len i (by omega)]
        have := S_le F ls i
        omega
      have nxt : ∀ H9 : Hp, ButL [w', p, t2] H8 H9 → Same H H9 ∧ H9 a = some (.lst (nats (starts 0 (szs F 0 ls)))) ∧ H9 z = some (.lst (nats (szs F 0 ls))) ∧ H9 b = some (.dK (labs 0 ls (szs F 0 ls) [])) := by
        intro H9 b9
        have k : ∀ {y : Addr} {o' : HO}, H8 y = some o' → y ≠ w' ∧ y ≠ p ∧ y ≠ t2 → H9 y = some o' := fun {y o'} e n => b9 _ _ e (by simp [n.1, n.2.1, n.2.2])
        exact ⟨fun y o' e => k (s8 _ _ e) (hFresh e).2, k ha8 (fresh ha').2, k hz8 (fresh (s4 _ _ hz3)).2, k hb8 (fresh hb').2⟩
      have b2 : ∀ {H9 : Hp}, ButL [w', p] H8 H9 → ButL [w', p, t2] H8 H9 := fun {H9} q x o' e n => q x o' e (fun z => n (by
        have z2 : x = w' ∨ x = p := by simpa using z
        rcases z2 with z2 | z2 <;> simp [z2]))
      refine ⟨Tt, _, rfl, SqT.of hTt, rfl, _, _, rfl, _, _, rfl, _, _, rfl, rfl, ?_⟩
      refine ⟨_, rfl, ai, _, 0, _, rfl, rfl, SqT.of hf, at_of (j := 0) rfl rfl, rfl, _, rfl, ?_⟩
      cases ln with
      | nop =>
        refine if_true_of rfl ?_
        refine ⟨_, rfl, _, rfl, _, _, rfl, m, w', p, q, t2, b, ai, asmTo F ls i, .nop, rfl, rfl, A8, hat8, Nat.le_trans hal2 (by decide), Or.inl ⟨rfl, fun H9 b9 A9 => ?_⟩⟩
        obtain ⟨q1, q2, q3, q4⟩ := nxt H9 (b2 b9)
        refine ⟨_, _, _, rfl, q1, q2, q3, q4, Or.inl ⟨not_last G hln (by simp), ?_⟩⟩
        rw [asm_succ hln]
        exact A9
      | stop =>
        refine if_true_of rfl ?_
        refine ⟨_, rfl, _, rfl, _, _, rfl, m, w', p, q, t2, b, ai, asmTo F ls i, .stop, rfl, rfl, A8, hat8, Nat.le_trans hal2 (by decide), Or.inr ⟨rfl, fun H9 e b9 he A9 => ?_⟩⟩
        obtain ⟨q1, q2, q3, q4⟩ := nxt H9 b9
        have hi1 := is_last G hln
        refine ⟨_, _, _, rfl, q1, q2, q3, q4, Or.inr ⟨hi1, e, ?_, ?_⟩⟩
        · rw [asm_succ hln]; exact A9
        · rw [he, asm_len i (by omega), show i = ls.length - 1 by omega]
      | br op g =>
        obtain ⟨ho, j, hj⟩ := G.br i op g hln
        refine if_false_of rfl ?_
        refine ⟨_, rfl, ai, _, 0, _, rfl, rfl, SqT.of hf, at_of (j := 0) rfl rfl, rfl, _, rfl, if_true_of rfl ?_⟩
        obtain ⟨_, pp, hline⟩ := id hat8
        refine ⟨_, rfl, _, rfl, _, rfl, _, rfl, ai, _, 4, _, rfl, rfl, SqT.of hline, at_of (j := 4) rfl rfl, b, .int (S F ls j : Int), rfl, (by rw [← labs_S hj]; exact DGet.k (k := .inl (g : Int)) hb8), _, rfl, _, _, rfl, rfl, _, rfl, ?_⟩
        have ed : (S F ls j : Int) - (S F ls i : Int) = dist F ls i g := dist_eq hj
        have r1 := S_le F ls j
        have r2 := S_le F ls i
        have r3 := lastLab_lt g ls j hj
        refine ⟨_, _, _, _, rfl, m, w', p, q, t2, b, ai, asmTo F ls i, op, g, (S F ls j : Int) - (S F ls i : Int), n3, rfl, rfl, rfl, rfl, A8, hat8, Nat.le_trans hal2 (by decide), by omega, by omega, fun q => ?_, fun H9 b9 A9 => ?_⟩
        · rw [ed]
          refine B.fit i op g hln ?_
          cases e : F i with
          | false => rfl
          | true => rw [← hn3, e] at q; simp [isBr] at q
        · obtain ⟨q1, q2, q3, q4⟩ := nxt H9 (b2 b9)
          refine ⟨_, _, _, rfl, q1, q2, q3, q4, Or.inl ⟨not_last G hln (by simp), ?_⟩⟩
          rw [asm_succ hln]
          have e : wordsOf F ls i (.br op g) = (if n3 = 1 then [wB op (4 * ((S F ls j : Int) - (S F ls i : Int)))] else [wB (trn op) (4 * 2), wJ (4 * ((S F ls j : Int) - (S F ls i : Int) - 1))]) := by
            unfold wordsOf
            rw [ed, ← hn3]
            cases F i <;> simp [isBr, size0]
          rw [e]
          exact A9
      | jmp g =>
        obtain ⟨j, hj⟩ := G.jm i g hln
        refine if_false_of rfl ?_
        refine ⟨_, rfl, ai, _, 0, _, rfl, rfl, SqT.of hf, at_of (j := 0) rfl rfl, rfl, _, rfl, if_false_of rfl ?_⟩
        refine ⟨_, rfl, ai, _, 0, _, rfl, rfl, SqT.of hf, at_of (j := 0) rfl rfl, rfl, _, rfl, if_true_of rfl ?_⟩
        refine ⟨_, rfl, _, _, rfl, rfl, _, rfl, ?_⟩
        have hn3' : n3 = size0 (.jmp g) (ls.drop (i + 1)) := by rw [← hn3]; rfl
        by_cases c : size0 (.jmp g) (ls.drop (i + 1)) = 0
        · refine if_false_of (decide_eq_false (by omega)) ?_
          refine ⟨_, _, _, rfl, s8, ha8, hz8, hb8, Or.inl ⟨not_last G hln (by simp), ?_⟩⟩
          rw [asm_succ hln]
          rw [wj0 c, List.append_nil]
          exact A8
        · refine if_true_of (decide_eq_true (by omega)) ?_
          obtain ⟨pp, hline⟩ := id hat8
          obtain ⟨⟨dx8, hm8⟩, _⟩ := id A8
          have ed : (S F ls j : Int) - (S F ls i : Int) = dist F ls i g := dist_eq hj
          have r1 := S_le F ls j
          have r2 := S_le F ls i
          have r3 := lastLab_lt g ls j hj
          refine ⟨_, rfl, m, dx8, _, rfl, hm8, aFm _ _ _ _ _, _, rfl, _, rfl, ai, _, 1, _, rfl, rfl, SqT.of hline, at_of (j := 1) rfl rfl, b, .int (S F ls j : Int), rfl, (by rw [← labs_S hj]; exact DGet.k (k := .inl (g : Int)) hb8), _, rfl, _, _, rfl, rfl, _, _, rfl, rfl, Or.inl ⟨by decide, by decide⟩, (by show 4 ≤ sizeLine; decide), fun e he => ?_⟩
          refine ⟨_, rfl, ai, _, 2, _, rfl, rfl, SqT.of (by rw [upd_ne (ne_of_none hline he)]; exact hline), at_of (j := 2) rfl rfl, ?_⟩
          refine ⟨_, _, _, rfl, m, w', p, q, t2, b, e, asmTo F ls i, [], .jal ((S F ls j : Int) - (S F ls i : Int)), rfl, rfl, A8.same (same_new he), upd_same, ⟨by omega, by omega⟩, Nat.le_trans hal2 (by decide), fun H9 b9 A9 => ?_⟩
          obtain ⟨q1, q2, q3, q4⟩ := nxt H9 (b2 (fun x o' ex n => b9 _ _ (by rw [upd_ne (ne_of_none ex he)]; exact ex) n))
          refine ⟨_, _, _, rfl, q1, q2, q3, q4, Or.inl ⟨not_last G hln (by simp), ?_⟩⟩
          rw [asm_succ hln, wj1 c, ← ed]
          exact A9
      | lab g =>
        refine if_false_of rfl ?_
        refine ⟨_, rfl, ai, _, 0, _, rfl, rfl, SqT.of hf, at_of (j := 0) rfl rfl, rfl, _, rfl, if_false_of rfl ?_⟩
        refine ⟨_, rfl, ai, _, 0, _, rfl, rfl, SqT.of hf, at_of (j := 0) rfl rfl, rfl, _, rfl, if_false_of rfl (if_false_of rfl ?_)⟩
        refine ⟨_, _, _, rfl, s8, ha8, hz8, hb8, Or.inl ⟨not_last G hln (by simp), ?_⟩⟩
        rw [asm_succ hln]
        show Asm K H8 m w' p q t2 b (asmTo F ls i ++ []) []
        rw [List.append_nil]
        exact A8
    · rintro σ H' ⟨v6, v7, v8, rfl, s7, ha7, hz7, hb7, hA⟩
      rw [List.length_map, hal] at hA
      rcases hA with ⟨q, _⟩ | ⟨_, e, A7, he⟩
      · exact absurd q (Nat.lt_irrefl _)
      · exact ⟨_, rfl, h F H' m w' p q t2 b e B s7 A7 hb7 he⟩
end
end K70

namespace K70
open PySem PyProof.Rows L2 My Ru
open Builtin (bitAnd bitOr)
def sp__law_cell_at (K : PySem.W.Frag) : Sp := sp2 fun a b H Q _ => ∃ (l : Addr) (ns : List Int) (k : Int), a = .ref l ∧ b = .int k ∧ SqL K H l (ns.map V.int) ∧ 0 ≤ k ∧ k < 2 ^ 62 ∧ ∀ v : Int, Q (.int v) H
def sp__law_draw (K : PySem.W.Frag) : Sp := sp3 fun x y z H Q _ => ∃ c k b : Int, x = .int c ∧ y = .int k ∧ z = .int b ∧ (-(2 ^ 63) < c ∧ c < 2 ^ 63) ∧ 0 ≤ k ∧ k < 2 ^ 62 ∧ 0 < b ∧ ∀ (r : Int) (H' : Hp), 0 ≤ r → r < b → Same H H' → Q (.int r) H'
def sp__law_number (K : PySem.W.Frag) : Sp := sp3 fun x y z H Q _ => ∃ c k b : Int, x = .int c ∧ y = .int k ∧ z = .int b ∧ 0 ≤ k ∧ k ≤ 1000 ∧ 0 < b ∧ ∀ (r : Int) (H' : Hp), 0 ≤ r → r < b → Same H H' → Q (.int r) H'
def sp__law_next (K : PySem.W.Frag) : Sp := sp2 fun x y H Q _ => ∃ (d s : Addr) (ns : List Int) (n b : Int), x = .ref d ∧ y = .int b ∧ H d = some (.lst [.ref s, .int 0, .int n]) ∧ H s = some (.lst (ns.map V.int)) ∧ 0 ≤ n ∧ n ≤ 1000000 ∧ 0 < b ∧
  ∀ (r : Int) (H' : Hp), 0 ≤ r → r < b → ButL [d] H H' → H' d = some (.lst [.ref s, .int 0, .int (n + 1)]) → Q (.int r) H'
def sp__law_pick (K : PySem.W.Frag) : Sp := sp2 fun x y H Q _ => ∃ (d s : Addr) (ns : List Int) (n : Int) (t : Addr) (xs : List V), x = .ref d ∧ y = .ref t ∧ H d = some (.lst [.ref s, .int 0, .int n]) ∧ H s = some (.lst (ns.map V.int)) ∧ 0 ≤ n ∧ n ≤ 1000000 ∧ H t = some (.tup xs) ∧ xs ≠ [] ∧
  ∀ (v : V) (H' : Hp), v ∈ xs → ButL [d] H H' → H' d = some (.lst [.ref s, .int 0, .int (n + 1)]) → Q v H'
theorem ite2 {c : Prop} [Decidable c] {A B : Prop} (h1 : c → A) (h2 : ¬ c → B) : if decide c = true then A else B := by
  by_cases h : c
  · rw [decide_eq_true h, if_pos rfl]; exact h1 h
  · rw [decide_eq_false h, if_neg Bool.false_ne_true]; exact h2 h
/-- the size of a line at a place, by a list of long ones -/
def sp__law_size (K : PySem.W.Frag) : Sp := sp3 fun x y z H Q _ => ∃ (l a : Addr) (ls : List Ln) (i : Nat) (ln : Ln) (fs : List Nat), x = .ref l ∧ y = .int (i : Int) ∧ z = .ref a ∧ Lines H l ls ∧ ls[i]? = some ln ∧ H a = some (.lst (nats fs)) ∧
  Q (.int (((if (isBr ln && decide (i ∈ fs)) = true then 2 else size0 ln (ls.drop (i + 1))) : Nat) : Int)) H
theorem inV_nats (i : Nat) : ∀ fs : List Nat, inV (.int (i : Int)) (nats fs) = decide (i ∈ fs)
  | [] => rfl
  | f :: fs => by
    have ih := inV_nats i fs
    unfold inV at *
    show (eqV (.int (f : Int)) (.int (i : Int)) || _) = _
    rw [ih]
    have : eqV (.int (f : Int)) (.int (i : Int)) = decide (f = i) := by
      by_cases c : f = i
      · subst c; simp [eqV]
      · rw [decide_eq_false c]
        simp [eqV]; omega
    rw [this]
    by_cases c : f = i
    · subst c; simp
    · rw [decide_eq_false c, Bool.false_or]
      simp [Ne.symm c]
theorem flat_nats : ∀ fs : List Nat, (nats fs).all flatV = true
  | [] => rfl
  | f :: fs => by
    show (flatV (.int (f : Int)) && _) = true
    rw [flat_nats fs]; rfl
section
variable {P : Program} {w : World} {K : PySem.W.Frag} {mg : Str → Option Value} {base : Heap}
theorem sc__law_cell_at : FnScope ["script", "k"] ["script", "k"] (defScope s__law_cell_at) := ⟨rfl, rfl, rfl, by decide +kernel, rfl, by decide +kernel, by decide +kernel⟩
theorem g__law_cell_at (T : Txt K mg w)  : Gd P w K mg base CX0 1 "_law_cell_at" ["script", "k"] (sp__law_cell_at K) := by
  have sc := sc__law_cell_at
  refine T.d__law_cell_at.ok sc len2 (fun _ _ _ _ _ _ us hl => match us, hl with | [_, _], _ => rfl) (fun f cdv A outer s H vs Q E hr h => ?_)
  obtain ⟨x0, x1, rfl, h⟩ := h
  obtain ⟨a, ns, k, rfl, rfl, hS, hk0, hk1, h⟩ := h
  refine ⟨_, (pss_cons (ps_if (pt_cmpR op_lt (pv 1) (pe_callB call_len_seq (by rfl) T.n_len PySem.boot_len (pa_cons (pv 0) pa_nil)) (nomark _)) (pss_one (ps_ret (pe_ix ix_list (pv 0) (pv 1) (fun _ _ => rfl)))) pss_nil)
      (pss_one (ps_ret pe_int))), ?_⟩
  refine ⟨_, rfl, _, rfl, a, ns.map V.int, rfl, Or.inl hS, _, _, rfl, rfl, _, rfl, ?_⟩
  by_cases c : k < ((ns.map V.int).length : Int)
  · refine if_true_of (decide_eq_true c) ?_
    have hl : k.toNat < ns.length := by rw [List.length_map] at c; omega
    refine ⟨_, rfl, _, rfl, a, ns.map V.int, k, V.int ns[k.toNat], rfl, rfl, hS, at_of (j := k.toNat) (by omega) (by rw [List.getElem?_map, List.getElem?_eq_getElem hl] <;> rfl), h _⟩
  · refine if_false_of (decide_eq_false c) ?_
    exact h 0
theorem sc__law_draw : FnScope ["cell", "k", "bound", "primes"] ["cell", "k", "bound"] (defScope s__law_draw) := ⟨rfl, rfl, rfl, by decide +kernel, rfl, by decide +kernel, by decide +kernel⟩
theorem g__law_draw (T : Txt K mg w)  : Gd P w K mg base CX0 1 "_law_draw" ["cell", "k", "bound"] (sp__law_draw K) := by
  have sc := sc__law_draw
  refine T.d__law_draw.ok sc len3 (fun _ _ _ _ _ _ us hl => match us, hl with | [_, _, _], _ => rfl) (fun f cdv A outer s H vs Q E hr h => ?_)
  obtain ⟨x0, x1, x2, rfl, h⟩ := h
  obtain ⟨c, k, b, rfl, rfl, rfl, hc, hk0, hk1, hb, h⟩ := h
  refine ⟨_, (pss_cons (ps_set (i := 3) sc.nd rfl (Or.inl rfl) (pe_tup (pa_cons pe_int (pa_cons pe_int (pa_cons pe_int (pa_cons pe_int (pa_cons pe_int (pa_cons pe_int (pa_cons pe_int (pa_cons pe_int (pa_cons pe_int (pa_cons pe_int (pa_cons pe_int (pa_cons pe_int (pa_cons pe_int (pa_cons pe_int (pa_cons pe_int (pa_cons pe_int pa_nil))))))))))))))))))
      (pss_one (ps_ret (pe_op op_mod (pe_op op_mod (pe_callTy call_int1 (by rfl) T.n_int (by decide +kernel) (pa_cons (pe_op op_add (pe_op op_mul (pv 0) pe_int) (pe_op op_mul (pv 1) pe_int)) pa_nil)) (pe_ix ix_tup (pv 3) (pe_op op_mod (pe_callTy call_int1 (by rfl) T.n_int (by decide +kernel) (pa_cons (pv 1) pa_nil)) pe_int) (fun _ _ => rfl))) (pv 2))))), ?_⟩
  refine ⟨(by show 16 ≤ sizeLine; decide), fun p hp => ?_⟩
  refine ⟨_, rfl, _, _, rfl, rfl, Or.inr ⟨by decide, by decide⟩, _, rfl, _, _, rfl, rfl, Or.inr ⟨by decide, by decide⟩, _, _, rfl, rfl, Or.inl ⟨_, rfl, ?_⟩⟩
  refine ⟨_, rfl, _, rfl, Or.inl ⟨_, rfl, ?_⟩⟩
  refine ⟨_, _, rfl, rfl, (by show (0 : Int) < 16; decide), ?_⟩
  obtain ⟨j, hj, ej⟩ : ∃ j : Nat, j < 16 ∧ k % 16 = (j : Int) := ⟨(k % 16).toNat, by omega, by omega⟩
  obtain ⟨q, hq, hq0⟩ : ∃ q : Int, ([.int 1000003, .int 1000033, .int 1000037, .int 1000039, .int 1000081, .int 1000099, .int 1000117, .int 1000121, .int 1000133, .int 1000151, .int 1000159, .int 1000171, .int 1000183, .int 1000187, .int 1000193, .int 1000199] : List V)[j]? = some (.int q) ∧ 0 < q := by
    have : ∀ j : Nat, j < 16 → ∃ q : Int, ([.int 1000003, .int 1000033, .int 1000037, .int 1000039, .int 1000081, .int 1000099, .int 1000117, .int 1000121, .int 1000133, .int 1000151, .int 1000159, .int 1000171, .int 1000183, .int 1000187, .int 1000193, .int 1000199] : List V)[j]? = some (.int q) ∧ 0 < q := by
      intro j hj
      match j, hj with
      | 0, _ | 1, _ | 2, _ | 3, _ | 4, _ | 5, _ | 6, _ | 7, _ | 8, _ | 9, _ | 10, _ | 11, _ | 12, _ | 13, _ | 14, _ | 15, _ => exact ⟨_, rfl, by decide⟩
      | n + 16, h => omega
    exact this j hj
  refine ⟨p, _, _, _, rfl, rfl, SqT.of upd_same, at_of ej hq, ?_⟩
  refine ⟨_, _, rfl, rfl, hq0, _, rfl, _, _, rfl, rfl, hb, ?_⟩
  exact h _ _ (Int.emod_nonneg _ (by omega)) (Int.emod_lt_of_pos _ hb) (fun x o e => by rw [upd_ne (ne_of_none e hp)]; exact e)
theorem sc__law_number : FnScope ["cell", "k", "bound", "power", "lap", "remains", "small"] ["cell", "k", "bound"] (defScope s__law_number) := ⟨rfl, rfl, rfl, by decide +kernel, rfl, by decide +kernel, by decide +kernel⟩
theorem g__law_number (T : Txt K mg w) (G__law_draw : Gd P w K mg base CX0 1 "_law_draw" ["cell", "k", "bound"] (sp__law_draw K)) : Gd P w K mg base CX0 2 "_law_number" ["cell", "k", "bound"] (sp__law_number K) := by
  have sc := sc__law_number
  refine T.d__law_number.ok sc len3 (fun _ _ _ _ _ _ us hl => match us, hl with | [_, _, _], _ => rfl) (fun f cdv A outer s H vs Q E hr h => ?_)
  obtain ⟨x0, x1, x2, rfl, h⟩ := h
  obtain ⟨c, k, b, rfl, rfl, rfl, hk0, hk1, hb, h⟩ := h
  refine ⟨_, (pss_cons (ps_set (i := 3) sc.nd rfl (Or.inl rfl) pe_int)
      (pss_cons (ps_for PassesOwn.never rfl (pi_range1 rfl T.n_range (pa_cons (pe_op op_mod (pe_callTy call_int1 (by rfl) T.n_int (by decide +kernel) (pa_cons (pv 1) pa_nil)) pe_int) pa_nil)) (pg_name (i := 4) sc.nd rfl (Or.inl rfl)) (pss_one (ps_set (i := 3) sc.nd rfl (Or.inl rfl) (pe_op op_mul (pv 3) pe_int))))
      (pss_cons (ps_set (i := 5) sc.nd rfl (Or.inl rfl) (pe_op op_fdivW (pe_op op_sub (pv 0) (pe_op op_pow pe_int pe_int)) (pv 3)))
      (pss_cons (ps_if (pt_cmpR op_gt (pv 5) pe_int (nomark _)) (pss_one (ps_ret (pe_op op_mod (pe_op op_mod (pe_callTy call_int1 (by rfl) T.n_int (by decide +kernel) (pa_cons (pv 5) pa_nil)) pe_int) (pv 2)))) pss_nil)
      (pss_cons (ps_set (i := 6) sc.nd rfl (Or.inl rfl) (pe_op op_mod (pe_callTy call_int1 (by rfl) T.n_int (by decide +kernel) (pa_cons (pv 0) pa_nil)) pe_int))
      (pss_one (ps_ret (pe_op op_mod (pe_g G__law_draw (hr.mono (by omega)) pass0 (pa_cons (pe_op op_mul (pe_op op_add (pv 6) (pe_op op_mul pe_int (pv 1))) (pe_op op_add (pe_op op_add (pv 6) (pe_op op_mul pe_int (pv 1))) pe_int)) (pa_cons (pe_op op_add (pe_op op_mod (pe_callTy call_int1 (by rfl) T.n_int (by decide +kernel) (pa_cons (pv 1) pa_nil)) pe_int) pe_int) (pa_cons pe_int pa_nil)))) (pv 2))))))))), ?_⟩
  refine ⟨_, rfl, Or.inl ⟨_, rfl, ?_⟩⟩
  refine ⟨_, _, rfl, rfl, (by show (0 : Int) < 24; decide), k % 24, rfl, by omega, by omega, ?_⟩
  refine for_range (n := (k % 24).toNat) (fun i σ H' => H' = H ∧ ∃ v : Option V, σ = [some (.int c), some (.int k), some (.int b), some (.int (1009 ^ i)), v, none, none]) ⟨rfl, _, rfl⟩ ?_ ?_
  · rintro i σ H' hi ⟨rfl, v, rfl⟩
    refine ⟨_, rfl, _, _, rfl, rfl, Or.inr ⟨by decide, by decide⟩, rfl, some (.int (0 + (i : Int))), ?_⟩
    show _ = ([some (.int c), some (.int k), some (.int b), some (.int (1009 ^ (i + 1))), some (.int (0 + (i : Int))), none, none] : List (Option V))
    rw [Int.pow_succ]
    all_goals rfl
  · rintro σ H' ⟨rfl, v, rfl⟩
    have hj : (k % 24).toNat < 24 := by omega
    have hp : (0 : Int) < 1009 ^ (k % 24).toNat := Int.pow_pos (by decide)
    have hpb : ((1009 : Int) ^ (k % 24).toNat).natAbs < 2 ^ 240 := by
      rw [Int.natAbs_pow]
      exact Nat.lt_of_le_of_lt (Nat.pow_le_pow_right (by decide) (show (k % 24).toNat ≤ 23 by omega)) (by decide : (1009 : Int).natAbs ^ 23 < 2 ^ 240)
    refine ⟨_, rfl, _, _, rfl, rfl, ⟨by decide, by decide, by decide⟩, _, _, rfl, rfl, _, rfl, _, _, rfl, rfl, wide_div hp hpb (by decide) (by decide), ?_⟩
    refine ⟨_, rfl, _, _, rfl, rfl, _, rfl, ?_⟩
    refine ite2 (fun _ => ?_) (fun _ => ?_)
    · refine ⟨_, rfl, Or.inl ⟨_, rfl, ?_⟩⟩
      refine ⟨_, _, rfl, rfl, (by show (0 : Int) < 1009; decide), _, rfl, _, _, rfl, rfl, hb, ?_⟩
      exact h _ _ (Int.emod_nonneg _ (by omega)) (Int.emod_lt_of_pos _ hb) (fun _ _ e => e)
    · refine ⟨_, rfl, Or.inl ⟨_, rfl, ?_⟩⟩
      refine ⟨_, _, rfl, rfl, (by show (0 : Int) < 1000003; decide), ?_⟩
      have h1 : 0 ≤ c % 1000003 := Int.emod_nonneg _ (by decide)
      have h2 : c % 1000003 < 1000003 := Int.emod_lt_of_pos _ (by decide)
      refine ⟨_, rfl, _, rfl, _, _, rfl, rfl, Or.inr ⟨by omega, by omega⟩, _, _, rfl, rfl, ?_⟩
      refine ⟨_, rfl, _, rfl, _, _, rfl, rfl, Or.inr ⟨by omega, by omega⟩, _, _, rfl, rfl, _, _, rfl, rfl, _, _, rfl, rfl, Or.inl ⟨by omega, by omega⟩, ?_⟩
      refine ⟨_, rfl, Or.inl ⟨_, rfl, ?_⟩⟩
      refine ⟨_, _, rfl, rfl, (by show (0 : Int) < 9; decide), _, _, rfl, rfl, ?_⟩
      refine ⟨_, _, _, rfl, _, _, _, rfl, rfl, rfl, ?_, by omega, by omega, by decide, fun r H1 hr0 hr1 e1 => ?_⟩
      · constructor
        · have := Int.mul_nonneg (show 0 ≤ c % 1000003 + 977 * k by omega) (show 0 ≤ c % 1000003 + 31 * k + 5 by omega); omega
        · have := Int.mul_le_mul (show c % 1000003 + 977 * k ≤ 3000003 by omega) (show c % 1000003 + 31 * k + 5 ≤ 3000003 by omega) (by omega) (by omega); omega
      refine ⟨_, rfl, _, _, rfl, rfl, hb, ?_⟩
      exact h _ _ (Int.emod_nonneg _ (by omega)) (Int.emod_lt_of_pos _ hb) e1
theorem sc__law_next : FnScope ["draw", "bound", "at", "cell"] ["draw", "bound"] (defScope s__law_next) := ⟨rfl, rfl, rfl, by decide +kernel, rfl, by decide +kernel, by decide +kernel⟩
theorem g__law_next (T : Txt K mg w) (G__law_cell_at : Gd P w K mg base CX0 1 "_law_cell_at" ["script", "k"] (sp__law_cell_at K)) (G__law_number : Gd P w K mg base CX0 2 "_law_number" ["cell", "k", "bound"] (sp__law_number K)) : Gd P w K mg base CX0 3 "_law_next" ["draw", "bound"] (sp__law_next K) := by
  have sc := sc__law_next
  refine T.d__law_next.ok sc len2 (fun _ _ _ _ _ _ us hl => match us, hl with | [_, _], _ => rfl) (fun f cdv A outer s H vs Q E hr h => ?_)
  obtain ⟨x0, x1, rfl, h⟩ := h
  obtain ⟨d, s, ns, n, b, rfl, rfl, hd, hs, hn0, hn1, hb, h⟩ := h
  refine ⟨_, (pss_cons (ps_asg (pe_op op_add (pe_ix ix_list (pv 0) pe_int (fun _ _ => rfl)) pe_int) (pg_sub (pv 0) pe_int set_list))
      (pss_cons (ps_set (i := 2) sc.nd rfl (Or.inl rfl) (pe_op op_fdiv (pe_ix ix_list (pv 0) pe_int (fun _ _ => rfl)) pe_int))
      (pss_cons (ps_set (i := 3) sc.nd rfl (Or.inl rfl) (pe_op op_add (pe_g G__law_cell_at (hr.mono (by omega)) pass0 (pa_cons (pe_ix ix_list (pv 0) pe_int (fun _ _ => rfl)) (pa_cons (pe_op op_add (pe_ix ix_list (pv 0) pe_int (fun _ _ => rfl)) (pv 2)) pa_nil))) (pe_op op_mul pe_int (pv 2))))
      (pss_one (ps_ret (pe_g G__law_number (hr.mono (by omega)) pass0 (pa_cons (pv 3) (pa_cons (pe_op op_add (pe_op op_mod (pe_callTy call_int1 (by rfl) T.n_int (by decide +kernel) (pa_cons (pe_ix ix_list (pv 0) pe_int (fun _ _ => rfl)) pa_nil)) pe_int) pe_int) (pa_cons (pv 1) pa_nil))))))))), ?_⟩
  have hds : d ≠ s := ne_of hd hs (by intro z; cases ns <;> cases z)
  refine ⟨_, rfl, d, _, _, _, rfl, rfl, SqL.of hd, at_of (j := 2) rfl rfl, _, _, rfl, rfl, _, rfl, d, _, _, 2, rfl, rfl, hd, rfl, ?_⟩
  show ∃ v, _ ∧ _
  refine ⟨_, rfl, d, _, _, _, rfl, rfl, SqL.of upd_same, at_of (j := 2) rfl rfl, _, _, rfl, rfl, ⟨by decide, by decide⟩, ?_⟩
  refine ⟨_, rfl, d, _, _, _, rfl, rfl, SqL.of upd_same, at_of (j := 0) rfl rfl, _, rfl, d, _, _, _, rfl, rfl, SqL.of upd_same, at_of (j := 1) rfl rfl, _, rfl, _, _, rfl, rfl, ?_⟩
  refine ⟨_, _, rfl, _, ns, _, rfl, rfl, SqL.of (by rw [upd_ne hds.symm]; exact hs), by omega, by omega, fun v => ?_⟩
  refine ⟨_, rfl, _, _, rfl, rfl, Or.inr ⟨by omega, by omega⟩, _, _, rfl, rfl, ?_⟩
  refine ⟨_, rfl, _, rfl, d, _, _, _, rfl, rfl, SqL.of upd_same, at_of (j := 2) rfl rfl, Or.inl ⟨_, rfl, ?_⟩⟩
  refine ⟨_, _, rfl, rfl, (by show (0 : Int) < 12; decide), _, _, rfl, rfl, _, rfl, ?_⟩
  refine ⟨_, _, _, rfl, _, _, _, rfl, rfl, rfl, by omega, by omega, hb, fun r H1 h0 h1 e1 => ?_⟩
  refine h r H1 h0 h1 (fun x o e hx => e1 _ _ (by rw [upd_ne (fun z => hx (by simp [z]))]; exact e)) ?_
  exact e1 _ _ upd_same
theorem sc__law_pick : FnScope ["draw", "things"] ["draw", "things"] (defScope s__law_pick) := ⟨rfl, rfl, rfl, by decide +kernel, rfl, by decide +kernel, by decide +kernel⟩
theorem g__law_pick (T : Txt K mg w) (G__law_next : Gd P w K mg base CX0 3 "_law_next" ["draw", "bound"] (sp__law_next K)) : Gd P w K mg base CX0 4 "_law_pick" ["draw", "things"] (sp__law_pick K) := by
  have sc := sc__law_pick
  refine T.d__law_pick.ok sc len2 (fun _ _ _ _ _ _ us hl => match us, hl with | [_, _], _ => rfl) (fun f cdv A outer s H vs Q E hr h => ?_)
  obtain ⟨x0, x1, rfl, h⟩ := h
  obtain ⟨d, s, ns, n, t, xs, rfl, rfl, hd, hs, hn0, hn1, ht, hx, h⟩ := h
  refine ⟨_, (pss_one (ps_ret (pe_ix ix_tup (pv 1) (pe_g G__law_next (hr.mono (by omega)) pass0 (pa_cons (pv 0) (pa_cons (pe_callB call_len_seq (by rfl) T.n_len PySem.boot_len (pa_cons (pv 1) pa_nil)) pa_nil))) (fun _ _ => rfl)))), ?_⟩
  have hl : 0 < xs.length := List.length_pos_iff.mpr hx
  have hdt : t ≠ d := ne_of ht hd (by intro z; cases z)
  refine ⟨_, rfl, _, rfl, _, rfl, t, xs, rfl, Or.inr (SqT.of ht), ?_⟩
  refine ⟨_, _, rfl, d, s, ns, n, _, rfl, rfl, hd, hs, hn0, hn1, by omega, fun r H1 h0 h1 e1 e2 => ?_⟩
  have hj : r.toNat < xs.length := by omega
  refine ⟨t, xs, r, xs[r.toNat], rfl, rfl, SqT.of (e1 _ _ ht (by simpa using hdt)), at_of (j := r.toNat) (by omega) (List.getElem?_eq_getElem hj), ?_⟩
  exact h _ H1 (List.getElem_mem hj) e1 e2
theorem sc__law_size : FnScope ["lines", "at", "long", "line", "late"] ["lines", "at", "long"] (defScope s__law_size) := ⟨rfl, rfl, rfl, by decide +kernel, rfl, by decide +kernel, by decide +kernel⟩
theorem g__law_size (T : Txt K mg w)  : Gd P w K mg base CX0 1 "_law_size" ["lines", "at", "long"] (sp__law_size K) := by
  have sc := sc__law_size
  refine T.d__law_size.ok sc len3 (fun _ _ _ _ _ _ us hl => match us, hl with | [_, _, _], _ => rfl) (fun f cdv A outer s H vs Q E hr h => ?_)
  obtain ⟨x0, x1, x2, rfl, h⟩ := h
  obtain ⟨l, a, ls, i, ln, fs, rfl, rfl, rfl, L, hln, ha, h⟩ := h
  refine ⟨_, (pss_cons (ps_set (i := 3) sc.nd rfl (Or.inl rfl) (pe_ix ix_list (pv 0) (pv 1) (fun _ _ => rfl)))
      (pss_cons (ps_if (pt_cmpR op_eq (pe_ix ix_tup (pv 3) pe_int (fun _ _ => rfl)) pe_str (nomark _)) (pss_one (ps_ret pe_int)) pss_nil)
      (pss_cons (ps_if (pt_cmpR op_eq (pe_ix ix_tup (pv 3) pe_int (fun _ _ => rfl)) pe_str (nomark _)) (pss_cons (ps_set (i := 4) sc.nd rfl (Or.inl rfl) (pe_op op_add (pv 1) pe_int))
      (pss_one (ps_while PassesOwn.never (PW.pt (pw_and (pt_cmpR op_lt (pv 4) (pe_callB call_len_seq (by rfl) T.n_len PySem.boot_len (pa_cons (pv 0) pa_nil)) (nomark _)) (pw_and1 (pt_cmpR op_eq (pe_ix ix_tup (pe_ix ix_list (pv 0) (pv 4) (fun _ _ => rfl)) pe_int (fun _ _ => rfl)) pe_str (nomark _))))) (pss_cons (ps_if (pt_cmpR op_eq (pe_ix ix_tup (pe_ix ix_list (pv 0) (pv 4) (fun _ _ => rfl)) pe_int (fun _ _ => rfl)) (pe_ix ix_tup (pv 3) pe_int (fun _ _ => rfl)) (nomark _)) (pss_one (ps_ret pe_int)) pss_nil)
      (pss_one (ps_set (i := 4) sc.nd rfl (Or.inl rfl) (pe_op op_add (pv 4) pe_int))))))) pss_nil)
      (pss_one (ps_ret (pe_ifExp (PW.pt (pw_and (pt_cmpR op_eq (pe_ix ix_tup (pv 3) pe_int (fun _ _ => rfl)) pe_str (nomark _)) (pw_and1 (pt_cmpR op_in_seq (pv 1) (pv 2) rfl)))) pe_int pe_int)))))), ?_⟩
  obtain ⟨as, hl, hL, hll⟩ := L
  have hal := hL.len
  obtain ⟨ai, hai, hat⟩ := hL.get i ln hln
  obtain ⟨xs', hf⟩ := hat.first
  refine ⟨_, rfl, _, rfl, l, _, (i : Int), _, rfl, rfl, SqL.of hl, at_of (j := i) rfl (at_refs hai), ?_⟩
  refine ⟨_, rfl, ai, _, 0, _, rfl, rfl, SqT.of hf, at_of (j := 0) rfl rfl, rfl, _, rfl, ?_⟩
  cases ln with
  | lab n =>
    refine if_true_of rfl ?_
    exact h
  | nop =>
    refine if_false_of rfl ?_
    refine ⟨_, rfl, ai, _, 0, _, rfl, rfl, SqT.of hf, at_of (j := 0) rfl rfl, rfl, _, rfl, if_false_of rfl ?_⟩
    refine ⟨_, rfl, ai, _, 0, _, rfl, rfl, SqT.of hf, at_of (j := 0) rfl rfl, rfl, _, rfl, if_false_of rfl (if_false_of rfl ?_)⟩
    exact h
  | stop =>
    refine if_false_of rfl ?_
    refine ⟨_, rfl, ai, _, 0, _, rfl, rfl, SqT.of hf, at_of (j := 0) rfl rfl, rfl, _, rfl, if_false_of rfl ?_⟩
    refine ⟨_, rfl, ai, _, 0, _, rfl, rfl, SqT.of hf, at_of (j := 0) rfl rfl, rfl, _, rfl, if_false_of rfl (if_false_of rfl ?_)⟩
    exact h
  | br o g =>
    refine if_false_of rfl ?_
    refine ⟨_, rfl, ai, _, 0, _, rfl, rfl, SqT.of hf, at_of (j := 0) rfl rfl, rfl, _, rfl, if_false_of rfl ?_⟩
    refine ⟨_, rfl, ai, _, 0, _, rfl, rfl, SqT.of hf, at_of (j := 0) rfl rfl, rfl, _, rfl, if_true_of rfl ?_⟩
    refine ⟨_, rfl, _, rfl, a, _, rfl, Or.inl (SqL.of ha), rfl, flat_nats fs, _, rfl, ?_⟩
    show if inV (.int (i : Int)) (nats fs) = true then _ else _
    rw [inV_nats]
    cases c : decide (i ∈ fs) with
    | true =>
      rw [c] at h
      exact if_true_of rfl h
    | false =>
      rw [c] at h
      exact if_false_of rfl h
  | jmp g =>
    obtain ⟨pp, hline⟩ := id hat
    refine if_false_of rfl ?_
    refine ⟨_, rfl, ai, _, 0, _, rfl, rfl, SqT.of hf, at_of (j := 0) rfl rfl, rfl, _, rfl, if_true_of rfl ?_⟩
    refine ⟨_, rfl, _, _, rfl, rfl, ?_⟩
    have hi : i < ls.length := by
      by_cases c : i < ls.length
      · exact c
      · rw [List.getElem?_eq_none (by omega)] at hln; cases hln
    refine ⟨fun m σ H' => ∃ k : Nat, σ = [some (.ref l), some (.int (i : Int)), some (.ref a), some (.ref ai), some (.int (k : Int))] ∧ H' = H ∧ k ≤ ls.length ∧ (g ∈ behind (ls.drop (i + 1)) ↔ g ∈ behind (ls.drop k)) ∧ m = ls.length - k, ⟨_, i + 1, rfl, rfl, by omega, Iff.rfl, rfl⟩, ?_⟩
    rintro m σ H' ⟨k, rfl, rfl, hk, hiff, rfl⟩
    have fin : g ∉ behind (ls.drop k) → ∃ v, some (V.ref ai) = some v ∧ True ∧ Q (.int 1) H' := by
      intro q
      refine ⟨_, rfl, trivial, ?_⟩
      have q2 : ¬ g ∈ behind (ls.drop (i + 1)) := fun z => q (hiff.mp z)
      have : size0 (.jmp g) (ls.drop (i + 1)) = 1 := if_neg q2
      have e : (if (isBr (Ln.jmp g) && decide (i ∈ fs)) = true then 2 else size0 (.jmp g) (ls.drop (i + 1))) = 1 := by rw [this]; rfl
      rw [e] at h
      exact h
    refine ⟨_, rfl, _, rfl, l, _, rfl, Or.inl (SqL.of hl), _, _, rfl, rfl, _, rfl, ?_⟩
    rw [List.length_map, hal]
    by_cases c : k < ls.length
    · refine if_true_of (decide_eq_true (by omega)) ?_
      have hk2 : ls[k]? = some ls[k] := List.getElem?_eq_getElem c
      obtain ⟨bi, hbi, hbt⟩ := hL.get k _ hk2
      obtain ⟨ys, hbf⟩ := hbt.first
      have ed : ls.drop k = ls[k] :: ls.drop (k + 1) := List.drop_eq_getElem_cons c
      refine ⟨_, rfl, _, rfl, l, _, (k : Int), _, rfl, rfl, SqL.of hl, at_of (j := k) rfl (at_refs hbi), bi, _, 0, _, rfl, rfl, SqT.of hbf, at_of (j := 0) rfl rfl, rfl, _, rfl, ?_⟩
      cases el : ls[k] with
      | lab n =>
        rw [el] at hbt ed
        refine if_true_of rfl ⟨_, fun _ _ q => q, ?_⟩
        refine ⟨_, rfl, _, rfl, l, _, (k : Int), _, rfl, rfl, SqL.of hl, at_of (j := k) rfl (at_refs hbi), bi, _, 1, _, rfl, rfl, SqT.of hbt, at_of (j := 1) rfl rfl, _, rfl, ai, _, 1, _, rfl, rfl, SqT.of hline, at_of (j := 1) rfl rfl, rfl, _, rfl, ?_⟩
        by_cases e : n = g
        · subst e
          refine if_true_of (decide_eq_true rfl) ?_
          have q2 : n ∈ behind (ls.drop (i + 1)) := hiff.mpr (by rw [ed]; exact List.mem_cons_self ..)
          have : size0 (.jmp n) (ls.drop (i + 1)) = 0 := if_pos q2
          have e2 : (if (isBr (Ln.jmp n) && decide (i ∈ fs)) = true then 2 else size0 (.jmp n) (ls.drop (i + 1))) = 0 := by rw [this]; rfl
          rw [e2] at h
          exact h
        · refine if_false_of (decide_eq_false (fun z => e (by injection z with z; omega))) ?_
          refine ⟨_, rfl, _, _, rfl, rfl, _, ?_, k + 1, rfl, rfl, by omega, ?_, rfl⟩
          · show ls.length - (k + 1) < ls.length - k
            omega
          · rw [hiff, ed]
            show g ∈ n :: behind _ ↔ _
            simp [Ne.symm e]
      | _ =>
        rw [el] at ed
        refine if_false_of rfl ?_
        obtain ⟨_, _, _, q⟩ := fin (by rw [ed]; simp [behind])
        refine ⟨_, rfl, ai, _, 0, _, rfl, rfl, SqT.of hf, at_of (j := 0) rfl rfl, rfl, _, rfl, if_false_of rfl (if_false_of rfl ?_)⟩
        exact q
    · refine if_false_of (decide_eq_false (by omega)) ?_
      obtain ⟨_, _, _, q⟩ := fin (by rw [List.drop_eq_nil_of_le (by omega)]; simp [behind])
      refine ⟨_, rfl, ai, _, 0, _, rfl, rfl, SqT.of hf, at_of (j := 0) rfl rfl, rfl, _, rfl, if_false_of rfl (if_false_of rfl ?_)⟩
      exact q
end
end K70

namespace K70
open PySem PyProof.Rows L2 My Ru
open Builtin (bitAnd bitOr)
def goalOf (ls : List Ln) (j : Nat) : Nat := match ls[j]? with
  | some (.br _ g) => g
  | _ => 0
def fB (F : Nat → Bool) (ls : List Ln) (j : Nat) : Bool := F j || reach (dist F ls j (goalOf ls j))
def fitB (F : Nat → Bool) (ls : List Ln) : Bool := (brs ls).all (fB F ls)
theorem fitB_iff {F : Nat → Bool} {ls : List Ln} : fitB F ls = true ↔ fitsB F ls := by
  unfold fitB fitsB
  rw [List.all_eq_true]
  constructor
  · intro h i o g e f
    have := h i (mem_brs.mpr ⟨o, g, e⟩)
    unfold fB goalOf at this
    rw [e, f] at this
    exact this
  · intro h i hi
    obtain ⟨o, g, e⟩ := mem_brs.mp hi
    unfold fB goalOf
    rw [e]
    cases f : F i with
    | true => rfl
    | false => rw [Bool.false_or]; exact h i o g e f
def sp__law_fits (K : PySem.W.Frag) : Sp := sp2 fun x y H Q _ => ∃ (l a : Addr) (ls : List Ln) (fs : List Nat), x = .ref l ∧ y = .ref a ∧ Lines H l ls ∧ GoodL ls ∧ H a = some (.lst (nats fs)) ∧
  ∀ (H' : Hp) (t p b : Addr), Same H H' → H' t = some (.tup [.bl (fitB (fun j => decide (j ∈ fs)) ls), .ref p, .ref b]) → H p = none → H b = none → H' p = some (.lst (nats (starts 0 (szs (fun j => decide (j ∈ fs)) 0 ls)))) → H' b = some (.dK (labs 0 ls (szs (fun j => decide (j ∈ fs)) 0 ls) [])) → Q (.ref t) H'
section
variable {P : Program} {w : World} {K : PySem.W.Frag} {mg : Str → Option Value} {base : Heap}
theorem sc__law_fits : FnScope ["lines", "long", "places", "labels", "place", "at", "line"] ["lines", "long"] (defScope s__law_fits) := ⟨rfl, rfl, rfl, by decide +kernel, rfl, by decide +kernel, by decide +kernel⟩
theorem g__law_fits (T : Txt K mg w) (G__law_size : Gd P w K mg base CX0 1 "_law_size" ["lines", "at", "long"] (sp__law_size K)) : Gd P w K mg base CX0 2 "_law_fits" ["lines", "long"] (sp__law_fits K) := by
  have sc := sc__law_fits
  refine T.d__law_fits.ok sc len2 (fun _ _ _ _ _ _ us hl => match us, hl with | [_, _], _ => rfl) (fun f cdv A outer s H vs Q E hr h => ?_)
  obtain ⟨x0, x1, rfl, h⟩ := h
  obtain ⟨l, a, ls, fs, rfl, rfl, L, G, ha, h⟩ := h
  refine ⟨_, (pss_cons (ps_asg (pe_tup (pa_cons (pe_lst pa_nil) (pa_cons pe_dnewK (pa_cons pe_int pa_nil)))) (pg_tup rfl (pgs_cons (pg_name (i := 2) sc.nd rfl (Or.inr rfl)) (pgs_cons (pg_name (i := 3) sc.nd rfl (Or.inr rfl)) (pgs_cons (pg_name (i := 4) sc.nd rfl (Or.inl rfl)) pgs_nil)))))
      (pss_cons (ps_for PassesOwn.never rfl (pi_enum rfl T.n_enumerate (pa_cons (pv 0) pa_nil)) (pg_tup rfl (pgs_cons (pg_name (i := 5) sc.nd rfl (Or.inl rfl)) (pgs_cons (pg_name (i := 6) sc.nd rfl (Or.inl rfl)) pgs_nil))) (pss_cons (ps_expr (pe_bm PySem.F.plainAttrs_list PySem.F.slot_list_append PySem.F.type_list_append mt_append (pv 2) (pa_cons (pv 4) pa_nil)))
      (pss_cons (ps_if (pt_cmpR op_eq (pe_ix ix_tup (pv 6) pe_int (fun _ _ => rfl)) pe_str (nomark _)) (pss_one (ps_dput (hu_of hr) (pv 3) (pe_ix ix_tup (pv 6) pe_int (fun _ _ => rfl)) (pv 4) rfl)) pss_nil)
      (pss_one (ps_set (i := 4) sc.nd rfl (Or.inl rfl) (pe_op op_add (pv 4) (pe_g G__law_size (hr.mono (by omega)) pass0 (pa_cons (pv 0) (pa_cons (pv 5) (pa_cons (pv 1) pa_nil))))))))))
      (pss_one (ps_ret (pe_tup (pa_cons (pe_callB (cr_all rfl) (by rfl) T.n_all (by decide +kernel) (pa_cons (pe_lc (own := [("at", 5), ("line", 6)]) (g := gTup K 2 (gCons (gName 5) (gCons (gName 6) (gNil)))) (by rfl) sc.nd (pi_enum rfl T.n_enumerate (pa_cons (pv 0) pa_nil)) (blkOk_by (own := [("at", 5), ("line", 6)]) (N := ["lines", "long", "places", "labels", "place", "at", "line"]) (sc := defScope s__law_fits) (by decide +kernel)) (fun _ _ _ _ _ => (pg_tup rfl (pgs_cons (pg_name (i := 5) sc.nd rfl (Or.inl rfl)) (pgs_cons (pg_name (i := 6) sc.nd rfl (Or.inl rfl)) pgs_nil)))) (fun _ _ _ _ _ => (pts_one (pt_cmpR op_eq (pe_ix (ix_tup : IxR _ (rIxT K)) (pv 6) pe_int (fun _ _ => rfl)) pe_str (nomark _)))) (fun _ _ _ _ _ => (pe_or (pe_cmpR (op_in_seq : OpR _ _ (rIn K false)) (pv 5) (pv 1) rfl) (pe_one (pe_chain op_le op_le (pe_un un_neg pe_int) (pe_op op_sub (pe_dget (hu_of hr) (pv 3) (pe_ix (ix_tup : IxR _ (rIxT K)) (pv 6) pe_int (fun _ _ => rfl)) (fun _ _ => rfl)) (pe_ix (ix_list : IxR _ (rIxL K)) (pv 2) (pv 5) (fun _ _ => rfl))) pe_int))))) pa_nil)) (pa_cons (pv 2) (pa_cons (pv 3) pa_nil)))))))), ?_⟩
  obtain ⟨as, hl, hL, hll⟩ := id L
  have hal := hL.len
  generalize hF : (fun j => decide (j ∈ fs)) = F at *
  have hz : (szs F 0 ls).length = ls.length := szs_len _ _ _
  refine ⟨(by show 0 ≤ sizeLine; decide), fun p hp => ?_⟩
  intro b hb
  have pb : p ≠ b := ne_of_none upd_same hb
  have nb : H b = none := by rw [upd_ne pb.symm] at hb; exact hb
  refine ⟨(by show 3 ≤ sizeLine; decide), fun t0 ht0 => ?_⟩
  have S0 : Same H (upd (upd (upd H p (.lst [])) b (.dK [])) t0 (.tup [.ref p, .ref b, .int 0])) := Same.tr (same_put (same_new hp) nb) (same_new ht0)
  refine ⟨t0, _, rfl, SqT.of upd_same, rfl, _, _, rfl, _, _, rfl, _, _, rfl, rfl, ?_⟩
  refine ⟨_, rfl, l, as.map V.ref, rfl, SqL.of (S0 _ _ hl), ?_⟩
  refine for_it (walk_enum (K := K) (a := l) (xs := as.map V.ref)) (fun i σ H' => ∃ (v5 v6 : Option V), σ = [some (.ref l), some (.ref a), some (.ref p), some (.ref b), some (.int ((((szs F 0 ls).take i).sum : Nat) : Int)), v5, v6] ∧ Same H H' ∧
      H' p = some (.lst (nats ((starts 0 (szs F 0 ls)).take i))) ∧ H' b = some (.dK (labs 0 (ls.take i) ((szs F 0 ls).take i) []))) ?_ ?_ ?_ ?_
  · refine ⟨_, _, rfl, S0, ?_, ?_⟩
    · rw [upd_ne (ne_of_none (by rw [upd_ne pb]; exact upd_same) ht0), upd_ne pb]; exact upd_same
    · rw [upd_ne (ne_of_none upd_same ht0)]; exact upd_same
  · rintro i σ H' _ ⟨v5, v6, rfl, sH, _⟩
    exact SqL.of (sH _ _ hl)
  · rintro i x σ H2 H3 hi ⟨v5, v6, rfl, sH, h1, h2⟩ y
    obtain ⟨Tt, x, y, rfl, hT, rfl, e1, e2⟩ := y
    injection e1 with e1
    subst e1
    rw [List.length_map, hal] at hi
    obtain ⟨ai, hai, rfl⟩ := ref_get e2
    obtain ⟨ln, hln, hat⟩ := hL.at hai
    have pT : p ≠ Tt := ne_of_none h1 hT
    have bT : b ≠ Tt := ne_of_none h2 hT
    have sT : Same H (upd H2 Tt (.tup [.int (i : Nat), .ref ai])) := Same.tr sH (same_new hT)
    have h1' : upd H2 Tt (.tup [.int (i : Nat), .ref ai]) p = some (.lst (nats ((starts 0 (szs F 0 ls)).take i))) := by rw [upd_ne pT]; exact h1
    refine ⟨Tt, _, rfl, SqT.of upd_same, rfl, _, _, rfl, _, _, rfl, rfl, ?_⟩
    have hstl : (nats ((starts 0 (szs F 0 ls)).take i)).length < sizeLine := by
      rw [List.length_map, List.length_take, starts_len]; exact tup_lt (by omega)
    refine ⟨_, rfl, ty_lst h1', _, rfl, p, _, _, rfl, rfl, h1', hstl, ?_⟩
    have sP := same_put (o := .lst (nats ((starts 0 (szs F 0 ls)).take i) ++ [.int ((((szs F 0 ls).take i).sum : Nat) : Int)])) sT hp
    obtain ⟨xs', hf⟩ := (hat.keep (as := []) (ButL.same sP) (fun a z => by cases z)).first
    have hline := hat.keep (as := []) (ButL.same sP) (fun a z => by cases z)
    refine ⟨_, rfl, ai, _, 0, _, rfl, rfl, SqT.of hf, at_of (j := 0) rfl rfl, rfl, _, rfl, ?_⟩
    have esz := szs_get (F := F) ls 0 i ln hln
    rw [Nat.zero_add] at esz
    obtain ⟨z, ez⟩ : ∃ z, z = (if (isBr ln && F i) = true then 2 else size0 ln (ls.drop (i + 1))) := ⟨_, rfl⟩
    rw [← ez] at esz
    have ekl : (ls.take i).length = ((szs F 0 ls).take i).length := by rw [List.length_take, List.length_take, hz]
    have esn := labs_snoc (ls.take i) ((szs F 0 ls).take i) ln z 0 [] ekl
    rw [← take_succ hln, ← take_succ esz] at esn
    have est : nats ((starts 0 (szs F 0 ls)).take i) ++ [.int ((((szs F 0 ls).take i).sum : Nat) : Int)] = nats ((starts 0 (szs F 0 ls)).take (i + 1)) := by
      rw [starts_take (by rw [hz]; exact hi), nats_snoc]
    have hFi : decide (i ∈ fs) = F i := by rw [← hF]
    have esum : ((((szs F 0 ls).take i).sum : Nat) : Int) + (z : Int) = ((((szs F 0 ls).take (i + 1)).sum : Nat) : Int) := by
      rw [take_succ esz, List.sum_append]; simp
    have hb2 : upd (upd H2 Tt (.tup [.int (i : Nat), .ref ai])) p (.lst (nats ((starts 0 (szs F 0 ls)).take i) ++ [.int ((((szs F 0 ls).take i).sum : Nat) : Int)])) b = some (.dK (labs 0 (ls.take i) ((szs F 0 ls).take i) [])) := by
      rw [upd_ne pb.symm, upd_ne bT]; exact h2
    have hp2 : upd (upd H2 Tt (.tup [.int (i : Nat), .ref ai])) p (.lst (nats ((starts 0 (szs F 0 ls)).take i) ++ [.int ((((szs F 0 ls).take i).sum : Nat) : Int)])) p = some (.lst (nats ((starts 0 (szs F 0 ls)).take (i + 1)))) := by
      rw [upd_same, est]
    have hll2 : (labs 0 (ls.take i) ((szs F 0 ls).take i) []).length < sizeLine := by
      refine tup_lt (Nat.lt_of_le_of_lt (labs_len _ _ _ _) ?_)
      rw [List.length_nil, List.length_take]; omega
    generalize upd (upd H2 Tt (.tup [.int (i : Nat), .ref ai])) p (.lst (nats ((starts 0 (szs F 0 ls)).take i) ++ [.int ((((szs F 0 ls).take i).sum : Nat) : Int)])) = H5 at *
    cases ln with
    | lab n =>
      refine if_true_of rfl ?_
      refine ⟨_, rfl, _, rfl, _, rfl, ai, _, 1, _, rfl, rfl, SqT.of hline, at_of (j := 1) rfl rfl, b, _, rfl, DPut.k (k := .inl (n : Int)) hb2 hll2, ?_⟩
      have s5 := same_put (o := .dK (putK (labs 0 (ls.take i) ((szs F 0 ls).take i) []) (.inl (n : Int)) (.int ((((szs F 0 ls).take i).sum : Nat) : Int)))) sP nb
      have q1 : upd H5 b (.dK (putK (labs 0 (ls.take i) ((szs F 0 ls).take i) []) (.inl (n : Int)) (.int ((((szs F 0 ls).take i).sum : Nat) : Int)))) p = some (.lst (nats ((starts 0 (szs F 0 ls)).take (i + 1)))) := by rw [upd_ne pb]; exact hp2
      have q2 : upd H5 b (.dK (putK (labs 0 (ls.take i) ((szs F 0 ls).take i) []) (.inl (n : Int)) (.int ((((szs F 0 ls).take i).sum : Nat) : Int)))) b = some (.dK (labs 0 (ls.take (i + 1)) ((szs F 0 ls).take (i + 1)) [])) := by
        rw [upd_same, esn, Nat.zero_add]
      refine ⟨_, rfl, _, rfl, _, rfl, _, rfl, _, _, _, rfl, l, a, ls, i, (.lab n), fs, rfl, rfl, rfl, Lines.same s5 L, hln, s5 _ _ ha, ?_⟩
      rw [hFi, ← ez]
      refine ⟨_, _, rfl, rfl, ?_⟩
      exact ⟨_, _, by rw [← esum]; rfl, s5, q1, q2⟩
    | nop =>
      refine if_false_of rfl ?_
      have s5 := sP
      have q1 := hp2
      have q2 : H5 b = some (.dK (labs 0 (ls.take (i + 1)) ((szs F 0 ls).take (i + 1)) [])) := by rw [esn]; exact hb2
      refine ⟨_, rfl, _, rfl, _, rfl, _, rfl, _, _, _, rfl, l, a, ls, i, (.nop), fs, rfl, rfl, rfl, Lines.same s5 L, hln, s5 _ _ ha, ?_⟩
      rw [hFi, ← ez]
      refine ⟨_, _, rfl, rfl, ?_⟩
      exact ⟨_, _, by rw [← esum]; rfl, s5, q1, q2⟩
    | stop =>
      refine if_false_of rfl ?_
      have s5 := sP
      have q1 := hp2
      have q2 : H5 b = some (.dK (labs 0 (ls.take (i + 1)) ((szs F 0 ls).take (i + 1)) [])) := by rw [esn]; exact hb2
      refine ⟨_, rfl, _, rfl, _, rfl, _, rfl, _, _, _, rfl, l, a, ls, i, (.stop), fs, rfl, rfl, rfl, Lines.same s5 L, hln, s5 _ _ ha, ?_⟩
      rw [hFi, ← ez]
      refine ⟨_, _, rfl, rfl, ?_⟩
      exact ⟨_, _, by rw [← esum]; rfl, s5, q1, q2⟩
    | br o g =>
      refine if_false_of rfl ?_
      have s5 := sP
      have q1 := hp2
      have q2 : H5 b = some (.dK (labs 0 (ls.take (i + 1)) ((szs F 0 ls).take (i + 1)) [])) := by rw [esn]; exact hb2
      refine ⟨_, rfl, _, rfl, _, rfl, _, rfl, _, _, _, rfl, l, a, ls, i, (.br o g), fs, rfl, rfl, rfl, Lines.same s5 L, hln, s5 _ _ ha, ?_⟩
      rw [hFi, ← ez]
      refine ⟨_, _, rfl, rfl, ?_⟩
      exact ⟨_, _, by rw [← esum]; rfl, s5, q1, q2⟩
    | jmp g =>
      refine if_false_of rfl ?_
      have s5 := sP
      have q1 := hp2
      have q2 : H5 b = some (.dK (labs 0 (ls.take (i + 1)) ((szs F 0 ls).take (i + 1)) [])) := by rw [esn]; exact hb2
      refine ⟨_, rfl, _, rfl, _, rfl, _, rfl, _, _, _, rfl, l, a, ls, i, (.jmp g), fs, rfl, rfl, rfl, Lines.same s5 L, hln, s5 _ _ ha, ?_⟩
      rw [hFi, ← ez]
      refine ⟨_, _, rfl, rfl, ?_⟩
      exact ⟨_, _, by rw [← esum]; rfl, s5, q1, q2⟩
  · rintro σ H2 ⟨v5, v6, rfl, s2, h1, h2⟩
    rw [List.length_map, hal] at h1 h2
    rw [← hz, List.take_length] at h2
    rw [List.take_of_length_le (by rw [starts_len, hz]; exact Nat.le_refl _)] at h1
    rw [hz, List.take_length] at h2
    refine ⟨_, rfl, l, as.map V.ref, rfl, SqL.of (s2 _ _ hl), fun D hD => ?_⟩
    have nD : H D = none := by
      cases e : H D with
      | none => rfl
      | some o => rw [s2 _ _ e] at hD; cases hD
    refine lc_it (walk_enum (K := K) (a := l) (xs := as.map V.ref)) (fun i H' => Same H2 H' ∧ H' D = some (.lst ((((List.range i).filter fun j => isBr (ls.getD j .nop)).map (fB F ls)).map V.bl))) ⟨same_new hD, upd_same⟩ (fun i H' _ p => SqL.of (p.1 _ _ (s2 _ _ hl))) (fun i x H3 H4 hi q y => ?_) (fun H3 q => ?_)
    · obtain ⟨Tt, x, y, rfl, hT, rfl, e1, e2⟩ := y
      injection e1 with e1
      subst e1
      rw [List.length_map, hal] at hi
      obtain ⟨ai, hai, rfl⟩ := ref_get e2
      obtain ⟨ln, hln, hat⟩ := hL.at hai
      have sT2 : Same H2 (upd H3 Tt (.tup [.int (i : Nat), .ref ai])) := Same.tr q.1 (same_new hT)
      have sT : Same H (upd H3 Tt (.tup [.int (i : Nat), .ref ai])) := Same.tr s2 sT2
      have hline := hat.keep (as := []) (ButL.same sT) (fun a z => by cases z)
      obtain ⟨xs', hf⟩ := hline.first
      have DT : D ≠ Tt := ne_of_none q.2 hT
      have ekd : isBr (ls.getD i .nop) = isBr ln := by rw [List.getD_eq_getElem?_getD, hln]; rfl
      refine ⟨Tt, _, rfl, SqT.of upd_same, rfl, _, _, rfl, _, _, rfl, rfl, rfl, ?_⟩
      refine ⟨_, rfl, ai, _, 0, _, rfl, rfl, SqT.of hf, at_of (j := 0) rfl rfl, rfl, _, rfl, ?_⟩
      rw [kind_br]
      have hlc : ((((List.range i).filter fun j => isBr (ls.getD j .nop)).map (fB F ls)).map V.bl).length < sizeLine := by
        rw [List.length_map, List.length_map]
        have := List.length_filter_le (fun j => isBr (ls.getD j .nop)) (List.range i)
        rw [List.length_range] at this
        exact tup_lt (by omega)
      have hD2 : (upd H3 Tt (.tup [.int (i : Nat), .ref ai])) D = some (.lst ((((List.range i).filter fun j => isBr (ls.getD j .nop)).map (fB F ls)).map V.bl)) := by rw [upd_ne DT]; exact q.2
      generalize upd H3 Tt (.tup [.int (i : Nat), .ref ai]) = H4 at *
      cases ln with
      | br o g =>
        refine if_true_of rfl ?_
        obtain ⟨ho, j, hj⟩ := G.br i o g hln
        have hFi : decide (i ∈ fs) = F i := by rw [← hF]
        have fin : ∀ r : Bool, r = fB F ls i → Same H2 (upd H4 D (.lst ((((List.range i).filter fun j => isBr (ls.getD j .nop)).map (fB F ls)).map V.bl ++ [.bl r]))) ∧ upd H4 D (.lst ((((List.range i).filter fun j => isBr (ls.getD j .nop)).map (fB F ls)).map V.bl ++ [.bl r])) D = some (.lst ((((List.range (i + 1)).filter fun j => isBr (ls.getD j .nop)).map (fB F ls)).map V.bl)) := by
          intro r hr
          refine ⟨same_put sT2 hD, ?_⟩
          rw [upd_same, brs_take hi, ekd, show isBr (Ln.br o g) = true from rfl, if_pos rfl, List.map_append, List.map_append, hr]
          rfl
        refine ⟨_, rfl, _, rfl, a, nats fs, rfl, Or.inl (SqL.of (sT _ _ ha)), rfl, flat_nats fs, _, rfl, ?_⟩
        show if inV (.int (i : Int)) (nats fs) = true then _ else _
        rw [inV_nats, hFi]
        cases eF : F i with
        | true =>
          refine if_true_of rfl ⟨_, hD2, hlc, fin true ?_⟩
          unfold fB; rw [eF]; rfl
        | false =>
          refine if_false_of rfl ?_
          obtain ⟨_, pp, hline⟩ := hline
          have hst : (nats (starts 0 (szs F 0 ls)))[i]? = some (.int (S F ls i : Int)) := by
            rw [List.getElem?_map, starts_S hi]; rfl
          have ed : (S F ls j : Int) - (S F ls i : Int) = dist F ls i g := dist_eq hj
          have eg : goalOf ls i = g := by unfold goalOf; rw [hln]
          refine ⟨1024, rfl, _, rfl, _, rfl, ai, _, 4, _, rfl, rfl, SqT.of hline, at_of (j := 4) rfl rfl, b, .int (S F ls j : Int), rfl, (by rw [← labs_S hj]; exact DGet.k (k := .inl (g : Int)) (sT2 _ _ h2)), _, rfl, _, rfl, p, _, (i : Int), _, rfl, rfl, SqL.of (sT2 _ _ h1), at_of (j := i) rfl hst, _, _, rfl, rfl, _, _, rfl, rfl, decide (-1024 ≤ (S F ls j : Int) - (S F ls i : Int)), rfl, ?_⟩
          by_cases c1 : -1024 ≤ (S F ls j : Int) - (S F ls i : Int)
          · refine if_true_of (decide_eq_true c1) ?_
            refine ⟨_, _, rfl, rfl, _, hD2, hlc, fin _ ?_⟩
            unfold fB; rw [eF, eg, ← ed]; unfold reach; rw [decide_eq_true c1]; rfl
          · refine if_false_of (decide_eq_false c1) ⟨_, hD2, hlc, fin false ?_⟩
            unfold fB; rw [eF, eg, ← ed]; unfold reach; rw [decide_eq_false c1]; rfl
      | _ =>
        refine if_false_of rfl ⟨sT2, ?_⟩
        rw [hD2, brs_take hi, ekd]
        show _ = some (HO.lst (List.map V.bl (List.map (fB F ls) (_ ++ []))))
        rw [List.append_nil]
    · obtain ⟨s3, hDv⟩ := q
      rw [List.length_map, hal] at hDv
      refine ⟨D, (brs ls).map (fB F ls), rfl, SqL.of hDv, _, rfl, _, rfl, (by show 3 ≤ sizeLine; decide), fun t ht => ?_⟩
      rw [← hF] at h
      have := h (upd H3 t (.tup [.bl (((brs ls).map (fB F ls)).all id), .ref p, .ref b])) t p b (Same.tr s2 (Same.tr s3 (same_new ht))) ?_ hp nb ?_ ?_
      · exact this
      · rw [upd_same, hF]
        unfold fitB
        rw [List.all_map]; rfl
      · rw [hF, upd_ne (ne_of_none (s3 _ _ h1) ht)]; exact s3 _ _ h1
      · rw [hF, upd_ne (ne_of_none (s3 _ _ h2) ht)]; exact s3 _ _ h2
end
end K70

namespace K70
open PySem PyProof.Rows L2 My Ru
open Builtin (bitAnd bitOr)
def lnOk (B : Nat) : Ln → Prop
  | .br o g => o < 6 ∧ g ≤ B
  | .jmp g => g ≤ B
  | .stop => False
  | _ => True
structure Ing (B t : Nat) (ls : List Ln) : Prop where
  ok : ∀ l ∈ ls, lnOk B l
  labs : ∀ g, g ≤ t → Ln.lab g ∈ ls
  few : ls.countP isBr = t
  len : ls.length ≤ 1 + 1028 * t
theorem lastLab_mem {g : Nat} : ∀ {ls : List Ln}, Ln.lab g ∈ ls → ∃ j, lastLab g ls = some j
  | [], h => by cases h
  | l :: r, h => by
    unfold lastLab
    cases e : lastLab g r with
    | some j => exact ⟨_, rfl⟩
    | none =>
      rcases List.mem_cons.mp h with z | z
      · rw [← z]; exact ⟨0, by simp⟩
      · obtain ⟨j, q⟩ := lastLab_mem z
        rw [q] at e; cases e
theorem brs_len (ls : List Ln) : ∀ i, i ≤ ls.length → ((List.range i).filter fun j => isBr (ls.getD j .nop)).length = (ls.take i).countP isBr
  | 0, _ => by simp
  | i + 1, h => by
    have e : ls[i]? = some ls[i] := List.getElem?_eq_getElem (by omega)
    rw [brs_take (by omega), List.length_append, brs_len ls i (by omega), take_succ e, List.countP_append]
    congr 1
    rw [List.getD_eq_getElem?_getD, e, Option.getD_some]
    cases q : isBr ls[i] <;> simp [q]
theorem Ing.good {B : Nat} (hB : B ≤ 5) {ls : List Ln} (I : Ing B B ls) : GoodL (ls ++ [.stop]) := by
  have mem : ∀ (i : Nat) (l : Ln), (ls ++ [Ln.stop])[i]? = some l → l ≠ .stop → l ∈ ls := fun i l e n => by
    rcases List.mem_append.mp (List.mem_of_getElem? e) with z | z
    · exact z
    · exact absurd (List.mem_singleton.mp z) n
  refine ⟨fun i o g e => ?_, fun i g e => ?_, ?_, ⟨ls, rfl, fun l hl e => ?_⟩, ?_⟩
  · have q := I.ok _ (mem i _ e (by simp))
    exact ⟨q.1, lastLab_mem (List.mem_append_left _ (I.labs g q.2))⟩
  · have q := I.ok _ (mem i _ e (by simp))
    exact lastLab_mem (List.mem_append_left _ (I.labs g q))
  · have := brs_len (ls ++ [Ln.stop]) _ (Nat.le_refl _)
    rw [List.take_length, List.countP_append, I.few] at this
    unfold brs
    rw [this]
    show B + 0 ≤ 60
    omega
  · have := I.ok l hl
    rw [e] at this
    exact this
  · have := I.len
    rw [List.length_append, List.length_singleton]
    omega
theorem noTup1 {H : Hp} {a : Addr} {xs : List V} (h : H a = some (.lst xs)) : NoTup [a] H := fun b hb ys e => by
  rw [List.mem_singleton.mp hb, h] at e; cases e
theorem butL_put {as : List Addr} {H H' : Hp} {s : Addr} {o : HO} (h : ButL as H H') (n : H s = none) : ButL as H (upd H' s o) := fun x u e m => by
  rw [upd_ne (ne_of_none e n)]; exact h x u e m
structure Bld (s : Addr) (H0 H : Hp) (d r : Addr) (n : Int) (as : List Addr) (ls : List Ln) : Prop where
  but : ButL [d] H0 H
  d0 : ∃ o, H0 d = some o
  r0 : H0 r = none
  hd : H d = some (.lst [.ref s, .int 0, .int n])
  hr : H r = some (.lst (as.map V.ref))
  ln : Lns H as ls
section
variable {s : Addr} {H0 H : Hp} {d r : Addr} {n : Int} {as : List Addr} {ls : List Ln}
theorem Bld.rd (b : Bld s H0 H d r n as ls) : r ≠ d := fun e => by
  obtain ⟨o, h⟩ := b.d0
  rw [← e, b.r0] at h; cases h
theorem Bld.draw (b : Bld s H0 H d r n as ls) {H' : Hp} (h : ButL [d] H H') {n' : Int} (hd : H' d = some (.lst [.ref s, .int 0, .int n'])) : Bld s H0 H' d r n' as ls :=
  ⟨b.but.trans h, b.d0, b.r0, hd, h _ _ b.hr (by simpa using b.rd), b.ln.keep h (noTup1 b.hd)⟩
theorem Bld.new (b : Bld s H0 H d r n as ls) {T : Addr} {o : HO} (h : H T = none) : Bld s H0 (upd H T o) d r n as ls := by
  have hs : Same H (upd H T o) := same_new h
  have := ButL.same (as := [d]) hs
  exact ⟨b.but.trans this, b.d0, b.r0, hs _ _ b.hd, hs _ _ b.hr, b.ln.keep this (noTup1 b.hd)⟩
theorem Bld.app (b : Bld s H0 H d r n as ls) {a : Addr} {l : Ln} (h : LnAt H a l) : Bld s H0 (upd H r (.lst (as.map V.ref ++ [.ref a]))) d r n (as ++ [a]) (ls ++ [l]) := by
  have k : ButL [r] H (upd H r (.lst (as.map V.ref ++ [.ref a]))) := ButL.put (by simp)
  refine ⟨butL_put b.but b.r0, b.d0, b.r0, ?_, ?_, (b.ln.keep k (noTup1 b.hr)).app ⟨h.keep k (noTup1 b.hr), trivial⟩⟩
  · rw [upd_ne b.rd.symm]; exact b.hd
  · rw [upd_same, List.map_append]; rfl
theorem Bld.move (b : Bld s H0 H d r n as ls) {r' : Addr} {bs : List Addr} {ms : List Ln} (hn : H r' = none) (h : Lns H bs ms) : Bld s H0 (upd H r' (.lst (bs.map V.ref))) d r' n bs ms := by
  have c := b.new (o := .lst (bs.map V.ref)) hn
  have hs : Same H (upd H r' (.lst (bs.map V.ref))) := same_new hn
  refine ⟨c.but, b.d0, ?_, c.hd, upd_same, h.keep (as := []) (ButL.same hs) (fun a z => by cases z)⟩
  cases e : H0 r' with
  | none => rfl
  | some o =>
    by_cases z : r' = d
    · rw [z, b.hd] at hn; cases hn
    · rw [b.but _ _ e (by simpa using z)] at hn; cases hn
end
theorem Lns.rep {H : Hp} {a : Addr} {l : Ln} (h : LnAt H a l) : ∀ k, Lns H (List.replicate k a) (List.replicate k l)
  | 0 => trivial
  | k + 1 => ⟨h, Lns.rep h k⟩
theorem flat_rep (k : Nat) (a : Addr) : (List.replicate k [V.ref a]).flatten = (List.replicate k a).map V.ref := by
  rw [List.flatten_replicate_singleton, List.map_replicate]
def sp__law_lines (K : PySem.W.Frag) : Sp := sp2 fun x y H Q _ => ∃ (d s : Addr) (ns : List Int) (n : Int) (B : Nat), x = .ref d ∧ y = .int (B : Int) ∧ H d = some (.lst [.ref s, .int 0, .int n]) ∧ H s = some (.lst (ns.map V.int)) ∧ 0 ≤ n ∧ n ≤ 1000 ∧ B ≤ 5 ∧
  ∀ (H' : Hp) (l : Addr) (ls : List Ln), ButL [d] H H' → Lines H' l ls → GoodL ls → H l = none → Q (.ref l) H'
theorem Ing.turn {B t : Nat} {ls : List Ln} (I : Ing B t ls) {o g k : Nat} (ho : o < 6) (hg : g ≤ B) (hk : k ≤ 1024) (tl : List Ln) (ht : tl = [] ∨ ∃ g2, g2 ≤ B ∧ tl = [.jmp g2]) : Ing B (t + 1) ((ls ++ [.br o g]) ++ List.replicate k .nop ++ [.lab (t + 1)] ++ tl) := by
  refine ⟨fun l hl => ?_, fun g' hg' => ?_, ?_, ?_⟩
  · rw [List.mem_append, List.mem_append, List.mem_append, List.mem_append, List.mem_singleton, List.mem_singleton, List.mem_replicate] at hl
    rcases hl with ((((h | rfl) | ⟨_, rfl⟩) | rfl) | h)
    · exact I.ok l h
    · exact ⟨ho, hg⟩
    · trivial
    · trivial
    · rcases ht with rfl | ⟨g2, q, rfl⟩
      · cases h
      · rw [List.mem_singleton.mp h]; exact q
  · by_cases c : g' = t + 1
    · subst c
      exact List.mem_append_left _ (List.mem_append_right _ (by simp))
    · exact List.mem_append_left _ (List.mem_append_left _ (List.mem_append_left _ (List.mem_append_left _ (I.labs g' (by omega)))))
  · have e1 : (List.replicate k Ln.nop).countP isBr = 0 := by rw [List.countP_replicate]; rfl
    have e2 : tl.countP isBr = 0 := by
      rcases ht with rfl | ⟨g2, q, rfl⟩ <;> rfl
    rw [List.countP_append, List.countP_append, List.countP_append, List.countP_append, I.few, e1, e2]
    rfl
  · have := I.len
    have e2 : tl.length ≤ 1 := by
      rcases ht with rfl | ⟨g2, q, rfl⟩ <;> simp
    simp only [List.length_append, List.length_replicate, List.length_singleton]
    omega
section
variable {P : Program} {w : World} {K : PySem.W.Frag} {mg : Str → Option Value} {base : Heap}
theorem sc__law_lines : FnScope ["draw", "branches", "at", "p", "lines", "goal", "many"] ["draw", "branches"] (defScope s__law_lines) := ⟨rfl, rfl, rfl, by decide +kernel, rfl, by decide +kernel, by decide +kernel⟩
theorem g__law_lines (T : Txt K mg w) (G__law_next : Gd P w K mg base CX0 3 "_law_next" ["draw", "bound"] (sp__law_next K)) (G__law_pick : Gd P w K mg base CX0 4 "_law_pick" ["draw", "things"] (sp__law_pick K)) : Gd P w K mg base CX0 5 "_law_lines" ["draw", "branches"] (sp__law_lines K) := by
  have sc := sc__law_lines
  refine T.d__law_lines.ok sc len2 (fun _ _ _ _ _ _ us hl => match us, hl with | [_, _], _ => rfl) (fun f cdv A outer s H vs Q E hr h => ?_)
  obtain ⟨x0, x1, rfl, h⟩ := h
  obtain ⟨d, s, ns, n, B, rfl, rfl, hd, hs, hn0, hn1, hB, h⟩ := h
  refine ⟨_, (pss_cons (ps_par (i := 3) (j := 4) (by rfl) sc.nd rfl rfl (by decide) rfl rfl (pa_cons (pe_tup (pa_cons pe_str (pa_cons pe_int (pa_cons pe_int pa_nil)))) (pa_cons (pe_lst (pa_cons (pe_tup (pa_cons pe_str (pa_cons pe_int pa_nil))) pa_nil)) pa_nil)) (by rfl))
      (pss_cons (ps_for PassesOwn.never rfl (pi_range1 rfl T.n_range (pa_cons (pv 1) pa_nil)) (pg_name (i := 2) sc.nd rfl (Or.inl rfl)) (pss_cons (ps_set (i := 5) sc.nd rfl (Or.inl rfl) (pe_g G__law_next (hr.mono (by omega)) pass0 (pa_cons (pv 0) (pa_cons (pe_op op_add (pv 1) pe_int) pa_nil))))
      (pss_cons (ps_expr (pe_bm PySem.F.plainAttrs_list PySem.F.slot_list_append PySem.F.type_list_append mt_append (pv 4) (pa_cons (pe_tup (pa_cons pe_str (pa_cons (pe_g G__law_pick (hr.mono (by omega)) pass0 (pa_cons (pv 0) (pa_cons (pe_tup (pa_cons pe_str (pa_cons pe_str (pa_cons pe_str (pa_cons pe_str (pa_cons pe_str (pa_cons pe_str pa_nil))))))) pa_nil))) (pa_cons pe_int (pa_cons pe_int (pa_cons (pv 5) (pa_cons (pv 3) pa_nil))))))) pa_nil)))
      (pss_cons (ps_set (i := 6) sc.nd rfl (Or.inl rfl) (pe_g G__law_pick (hr.mono (by omega)) pass0 (pa_cons (pv 0) (pa_cons (pe_tup (pa_cons pe_int (pa_cons pe_int (pa_cons pe_int (pa_cons pe_int (pa_cons pe_int (pa_cons pe_int (pa_cons pe_int (pa_cons pe_int (pa_cons pe_int (pa_cons pe_int (pa_cons pe_int (pa_cons pe_int (pa_cons pe_int (pa_cons pe_int (pa_cons pe_int pa_nil)))))))))))))))) pa_nil))))
      (pss_cons (ps_set (i := 4) sc.nd rfl (Or.inl rfl) (pe_op op_cat (pe_op op_cat (pv 4) (pe_op op_rep (pe_lst (pa_cons (pe_tup (pa_cons pe_str (pa_cons (pe_tup (pa_cons pe_str (pa_cons pe_int (pa_cons pe_int (pa_cons pe_int pa_nil))))) (pa_cons (pv 3) (pa_cons pe_non (pa_cons pe_non pa_nil)))))) pa_nil)) (pv 6))) (pe_lst (pa_cons (pe_tup (pa_cons pe_str (pa_cons (pe_op op_add (pv 2) pe_int) pa_nil))) pa_nil))))
      (pss_one (ps_if (pt_cmpR op_eq (pe_g G__law_next (hr.mono (by omega)) pass0 (pa_cons (pv 0) (pa_cons pe_int pa_nil))) pe_int (nomark _)) (pss_one (ps_expr (pe_bm PySem.F.plainAttrs_list PySem.F.slot_list_append PySem.F.type_list_append mt_append (pv 4) (pa_cons (pe_tup (pa_cons pe_str (pa_cons (pe_g G__law_next (hr.mono (by omega)) pass0 (pa_cons (pv 0) (pa_cons (pe_op op_add (pv 1) pe_int) pa_nil))) (pa_cons (pv 3) pa_nil)))) pa_nil)))) pss_nil)))))))
      (pss_one (ps_ret (pe_op op_cat (pv 4) (pe_lst (pa_cons (pe_tup (pa_cons pe_str (pa_cons (pe_tup (pa_cons pe_str (pa_cons pe_int (pa_cons pe_int (pa_cons pe_int pa_nil))))) (pa_cons (pv 3) (pa_cons pe_non (pa_cons pe_str pa_nil)))))) pa_nil))))))), ?_⟩
  have hds : d ≠ s := ne_of hd hs (by intro z; cases ns <;> cases z)
  refine ⟨(by show 3 ≤ sizeLine; decide), fun p hp => ?_⟩
  refine ⟨(by show 2 ≤ sizeLine; decide), fun T0 hT0 => ?_⟩
  refine ⟨(by show 1 ≤ sizeLine; decide), fun r0 hr0 => ?_⟩
  have S1 := same_new (o := .tup [.str "m", .int 1, .int 1]) hp
  have S2 : Same H _ := Same.tr S1 (same_new (o := .tup [.str "label", .int 0]) hT0)
  have S3 : Same H _ := Same.tr S2 (same_new (o := .lst [.ref T0]) hr0)
  have r00 : H r0 = none := by
    cases e : H r0 with
    | none => rfl
    | some o => rw [S2 _ _ e] at hr0; cases hr0
  have b0 : Bld s H _ d r0 n [T0] [.lab 0] := ⟨ButL.same S3, ⟨_, hd⟩, r00, S3 _ _ hd, upd_same, ⟨(by show upd _ _ _ _ = _; rw [upd_ne (ne_of_none upd_same hr0)]; exact upd_same), trivial⟩⟩
  refine ⟨_, _, rfl, ?_⟩
  refine ⟨_, rfl, (B : Int), rfl, by omega, by omega, ?_⟩
  refine for_range (n := B) (fun t σ H' => ∃ (v2 v5 v6 : Option V) (r : Addr) (n' : Int) (as : List Addr) (ls : List Ln), σ = [some (.ref d), some (.int (B : Int)), v2, some (.ref p), some (.ref r), v5, v6] ∧ n ≤ n' ∧ n' ≤ n + 5 * (t : Int) ∧ Bld s H H' d r n' as ls ∧ Ing B t ls) ?_ ?_ ?_
  · refine ⟨_, _, _, r0, n, _, _, rfl, Int.le_refl _, by omega, b0, ⟨fun l hl => ?_, fun g hg => ?_, rfl, by simp⟩⟩
    · rw [List.mem_singleton.mp hl]; trivial
    · rw [show g = 0 by omega]; exact List.mem_singleton.mpr rfl
  · rintro t σ H1 ht ⟨v2, v5, v6, r, n1, as, ls, rfl, hn2, hn3, b, I⟩
    have hs1 : H1 s = some (.lst (ns.map V.int)) := b.but _ _ hs (by simpa using hds.symm)
    refine ⟨_, rfl, _, rfl, _, _, rfl, rfl, _, _, rfl, d, s, ns, n1, (B : Int) + 1, rfl, rfl, b.hd, hs1, by omega, by omega, by omega, fun g H2 g0 g1 e1 e2 => ?_⟩
    have hsB : ∀ {H' : Hp} {r : Addr} {n : Int} {as : List Addr} {ls : List Ln}, Bld s H H' d r n as ls → H' s = some (.lst (ns.map V.int)) := fun b => b.but _ _ hs (by simpa using hds.symm)
    have hasl : as.length = ls.length := b.ln.len
    have hlen := I.len
    have b2 := b.draw e1 e2
    obtain ⟨g', rfl⟩ : ∃ g' : Nat, g = (g' : Int) := ⟨g.toNat, by omega⟩
    refine ⟨_, rfl, ty_lst b2.hr, _, rfl, (by show 6 ≤ sizeLine; decide), fun q hq => ?_⟩
    have b2q := b2.new (o := .tup [.str "beq", .str "bne", .str "blt", .str "bge", .str "bltu", .str "bgeu"]) hq
    refine ⟨_, _, rfl, d, s, ns, n1 + 1, q, _, rfl, rfl, b2q.hd, hsB b2q, by omega, by omega, upd_same, by simp, fun v H3 hv e3 e4 => ?_⟩
    have b3 := b2q.draw e3 e4
    obtain ⟨o, ho, rfl⟩ : ∃ o : Nat, o < 6 ∧ v = .str (opn o) := by
      simp only [List.mem_cons, List.not_mem_nil, or_false] at hv
      rcases hv with rfl | rfl | rfl | rfl | rfl | rfl
      · exact ⟨0, by decide, rfl⟩
      · exact ⟨1, by decide, rfl⟩
      · exact ⟨2, by decide, rfl⟩
      · exact ⟨3, by decide, rfl⟩
      · exact ⟨4, by decide, rfl⟩
      · exact ⟨5, by decide, rfl⟩
    refine ⟨_, rfl, _, rfl, (by show 6 ≤ sizeLine; decide), fun T1 hT1 => ?_⟩
    have b3T := b3.new (o := .tup [.str "branch", .str (opn o), .int 10, .int 11, .int (g' : Int), .ref p]) hT1
    refine ⟨r, _, _, rfl, rfl, b3T.hr, (by rw [List.length_map]; exact tup_lt (by omega)), ?_⟩
    have b4 := b3T.app (l := .br o g') (a := T1) ⟨ho, p, upd_same⟩
    refine ⟨_, rfl, (by show 15 ≤ sizeLine; decide), fun q2 hq2 => ?_⟩
    have b4q := b4.new (o := .tup [.int 1, .int 5, .int 300, .int 340, .int 341, .int 342, .int 510, .int 511, .int 512, .int 1018, .int 1020, .int 1021, .int 1022, .int 1023, .int 1024]) hq2
    refine ⟨_, _, rfl, d, s, ns, _, q2, _, rfl, rfl, b4q.hd, hsB b4q, by omega, by omega, upd_same, by simp, fun v H5 hv e5 e6 => ?_⟩
    have b5 := b4q.draw e5 e6
    obtain ⟨k, hk, rfl⟩ : ∃ k : Nat, k ≤ 1024 ∧ v = .int (k : Int) := by
      simp only [List.mem_cons, List.not_mem_nil, or_false] at hv
      rcases hv with rfl | rfl | rfl | rfl | rfl | rfl | rfl | rfl | rfl | rfl | rfl | rfl | rfl | rfl | rfl
      · exact ⟨1, by decide, rfl⟩
      · exact ⟨5, by decide, rfl⟩
      · exact ⟨300, by decide, rfl⟩
      · exact ⟨340, by decide, rfl⟩
      · exact ⟨341, by decide, rfl⟩
      · exact ⟨342, by decide, rfl⟩
      · exact ⟨510, by decide, rfl⟩
      · exact ⟨511, by decide, rfl⟩
      · exact ⟨512, by decide, rfl⟩
      · exact ⟨1018, by decide, rfl⟩
      · exact ⟨1020, by decide, rfl⟩
      · exact ⟨1021, by decide, rfl⟩
      · exact ⟨1022, by decide, rfl⟩
      · exact ⟨1023, by decide, rfl⟩
      · exact ⟨1024, by decide, rfl⟩
    refine ⟨_, rfl, (by show 4 ≤ sizeLine; decide), fun T4 hT4 => ?_⟩
    refine ⟨_, rfl, (by show 5 ≤ sizeLine; decide), fun T5 hT5 => ?_⟩
    refine ⟨(by show 1 ≤ sizeLine; decide), fun L1 hL1 => ?_⟩
    have c4 := b5.new (o := .tup [.str "addi", .int 0, .int 0, .int 0]) hT4
    have c5 := c4.new (o := .tup [.str "word", .ref T4, .ref p, .non, .non]) hT5
    have c6 := c5.new (o := .lst [.ref T5]) hL1
    refine ⟨_, rfl, L1, (k : Int), _, rfl, rfl, upd_same, by omega, by omega, ?_, fun L2 hL2 => ?_⟩
    · show 1 * _ ≤ _
      exact tup_le (by omega)
    have c7 := c6.new (o := .lst (List.replicate (k : Int).toNat [V.ref T5]).flatten) hL2
    have efl : (List.replicate (k : Int).toNat [V.ref T5]).flatten = (List.replicate k T5).map V.ref := flat_rep k T5
    refine ⟨r, L2, _, _, rfl, rfl, c7.hr, upd_same, ?_, fun L3 hL3 => ?_⟩
    · rw [efl]
      simp only [List.length_map, List.length_append, List.length_replicate, List.length_singleton]
      exact tup_le (by omega)
    have c8 := c7.new (o := .lst ((as ++ [T1]).map V.ref ++ (List.replicate (k : Int).toNat [V.ref T5]).flatten)) hL3
    refine ⟨_, rfl, _, _, rfl, rfl, (by show 2 ≤ sizeLine; decide), fun T6 hT6 => ?_⟩
    refine ⟨(by show 1 ≤ sizeLine; decide), fun L4 hL4 => ?_⟩
    have et : (0 + (t : Int) + 1) = ((t + 1 : Nat) : Int) := by omega
    have s46 : Same _ _ := Same.tr (same_new (o := .tup [.str "word", .ref T4, .ref p, .non, .non]) hT5) (Same.tr (same_new (o := .lst [.ref T5]) hL1) (Same.tr (same_new (o := .lst (List.replicate (k : Int).toNat [V.ref T5]).flatten) hL2) (Same.tr (same_new (o := .lst ((as ++ [T1]).map V.ref ++ (List.replicate (k : Int).toNat [V.ref T5]).flatten)) hL3) (Same.tr (same_new (o := .tup [.str "label", .int (0 + (t : Int) + 1)]) hT6) (same_new (o := .lst [.ref T6]) hL4)))))
    have s56 : Same _ _ := Same.tr (same_new (o := .lst [.ref T5]) hL1) (Same.tr (same_new (o := .lst (List.replicate (k : Int).toNat [V.ref T5]).flatten) hL2) (Same.tr (same_new (o := .lst ((as ++ [T1]).map V.ref ++ (List.replicate (k : Int).toNat [V.ref T5]).flatten)) hL3) (Same.tr (same_new (o := .tup [.str "label", .int (0 + (t : Int) + 1)]) hT6) (same_new (o := .lst [.ref T6]) hL4))))
    have s36 : Same _ _ := Same.tr (same_new (o := .tup [.str "label", .int (0 + (t : Int) + 1)]) hT6) (same_new (o := .lst [.ref T6]) hL4)
    have c9 := c8.new (o := .tup [.str "label", .int (0 + (t : Int) + 1)]) hT6
    have c10 := c9.new (o := .lst [.ref T6]) hL4
    refine ⟨L3, L4, _, _, rfl, rfl, s36 _ _ upd_same, upd_same, ?_, fun L5 hL5 => ?_⟩
    · rw [efl]
      simp only [List.length_map, List.length_append, List.length_replicate, List.length_singleton]
      exact tup_le (by omega)
    rw [efl, ← List.map_append, show [V.ref T6] = [T6].map V.ref from rfl, ← List.map_append] at *
    have c11 := c10.move (bs := as ++ [T1] ++ List.replicate k T5 ++ [T6]) (ms := (ls ++ [.br o g']) ++ List.replicate k .nop ++ [.lab (t + 1)]) hL5 ((c10.ln.app (Lns.rep (l := .nop) ⟨T4, p, s56 _ _ upd_same, s46 _ _ upd_same⟩ k)).app (bs := [T6]) (ms := [.lab (t + 1)]) ⟨(by
      show _ = some (HO.tup [.str "label", .int ((t + 1 : Nat) : Int)])
      rw [← et]
      exact same_new hL4 _ _ upd_same), trivial⟩)
    refine ⟨_, rfl, _, _, rfl, d, s, ns, _, 4, rfl, rfl, c11.hd, hsB c11, by omega, by omega, by omega, fun g2 H6 g20 g21 e7 e8 => ?_⟩
    have c12 := c11.draw e7 e8
    refine ⟨rfl, _, rfl, ite2 (fun _ => ?_) (fun _ => ?_)⟩
    · refine ⟨_, rfl, ty_lst c12.hr, _, rfl, _, rfl, _, _, rfl, rfl, _, _, rfl, d, s, ns, _, (B : Int) + 1, rfl, rfl, c12.hd, hsB c12, by omega, by omega, by omega, fun g3 H7 g30 g31 e9 e10 => ?_⟩
      have c13 := c12.draw e9 e10
      obtain ⟨g3', rfl⟩ : ∃ g' : Nat, g3 = (g' : Int) := ⟨g3.toNat, by omega⟩
      refine ⟨_, rfl, (by show 3 ≤ sizeLine; decide), fun T7 hT7 => ?_⟩
      have c14 := c13.new (o := .tup [.str "jump", .int (g3' : Int), .ref p]) hT7
      refine ⟨L5, _, _, rfl, rfl, c14.hr, ?_, ?_⟩
      · simp only [List.length_map, List.length_append, List.length_replicate, List.length_singleton]
        exact tup_lt (by omega)
      exact ⟨_, _, _, L5, _, _, _, rfl, by omega, by omega, c14.app (l := .jmp g3') ⟨p, upd_same⟩, I.turn ho (by omega) hk _ (Or.inr ⟨g3', by omega, rfl⟩)⟩
    · have := I.turn ho (show g' ≤ B by omega) hk [] (Or.inl rfl)
      rw [List.append_nil] at this
      exact ⟨_, _, _, L5, _, _, _, rfl, by omega, by omega, c12, this⟩
  · rintro σ H1 ⟨v2, v5, v6, r, n1, as, ls, rfl, hn2, hn3, b, I⟩
    have hasl : as.length = ls.length := b.ln.len
    have hlen := I.len
    refine ⟨_, rfl, (by show 4 ≤ sizeLine; decide), fun T4 hT4 => ?_⟩
    refine ⟨_, rfl, (by show 5 ≤ sizeLine; decide), fun T5 hT5 => ?_⟩
    refine ⟨(by show 1 ≤ sizeLine; decide), fun L1 hL1 => ?_⟩
    have c4 := b.new (o := .tup [.str "ebreak", .int 0, .int 0, .int 0]) hT4
    have c5 := c4.new (o := .tup [.str "word", .ref T4, .ref p, .non, .str "told"]) hT5
    have c6 := c5.new (o := .lst [.ref T5]) hL1
    refine ⟨r, L1, _, _, rfl, rfl, c6.hr, upd_same, ?_, fun L2 hL2 => ?_⟩
    · simp only [List.length_map, List.length_singleton]
      exact tup_le (by omega)
    rw [show [V.ref T5] = [T5].map V.ref from rfl, ← List.map_append] at *
    have c7 := c6.move (bs := as ++ [T5]) (ms := ls ++ [.stop]) hL2 (c6.ln.app (bs := [T5]) (ms := [.stop]) ⟨⟨T4, p, same_new hL1 _ _ upd_same, Same.tr (same_new hT5) (same_new hL1) _ _ upd_same⟩, trivial⟩)
    have gd := I.good hB
    exact h _ L2 _ c7.but ⟨_, c7.hr, c7.ln, gd.len⟩ gd c7.r0
end
end K70

namespace K70
open PySem PyProof.Rows L2 My Ru
open Builtin (bitAnd bitOr)
def sp_law (K : PySem.W.Frag) : Sp := sp1 fun x H Q _ => ∃ (l : Addr) (ns : List Int), x = .ref l ∧ SqL K H l (ns.map V.int) ∧ ∀ H' : Hp, Q (.bl true) H'
theorem cut_ints (ns : List Int) (a b : Option Int) : ∃ ms : List Int, cutV (ns.map V.int) a b = ms.map V.int := by
  unfold cutV
  rw [← List.map_drop, ← List.map_take]
  exact ⟨_, rfl⟩
theorem told_nats {xs : List Nat} {ys : List Int} (h : ys.Perm (xs.map fun i : Nat => (i : Int))) : ∃ fs : List Nat, ys.map V.int = nats fs ∧ ∀ j, j ∈ fs ↔ j ∈ xs := by
  have hn : ∀ y ∈ ys, ∃ i : Nat, i ∈ xs ∧ y = (i : Int) := fun y hy => by
    obtain ⟨i, hi, e⟩ := List.mem_map.mp (h.mem_iff.mp hy)
    exact ⟨i, hi, e.symm⟩
  refine ⟨ys.map Int.toNat, ?_, fun j => ?_⟩
  · show _ = List.map _ (List.map Int.toNat ys)
    rw [List.map_map]
    refine List.map_congr_left fun y hy => ?_
    obtain ⟨i, _, rfl⟩ := hn y hy
    rfl
  · rw [List.mem_map]
    constructor
    · rintro ⟨y, hy, rfl⟩
      obtain ⟨i, hi, rfl⟩ := hn y hy
      exact hi
    · intro hj
      exact ⟨(j : Int), h.mem_iff.mpr (List.mem_map.mpr ⟨j, hj, rfl⟩), rfl⟩
theorem keys_ints (bs : List Nat) : (keysD bs).map (·.1) = (bs.map fun i : Nat => (i : Int)).map Sum.inl := by
  rw [List.map_map, List.map_map]; rfl
theorem Best.same {ls : List Ln} {F G : Nat → Bool} (a : Best ls F) (b : Best ls G) : F = G := by
  funext j
  cases e : F j with
  | true => exact (a.least G b.fit j e).symm
  | false =>
    cases e2 : G j with
    | true => rw [b.least F a.fit j e2] at e; cases e
    | false => rfl
theorem ix_last {n : Nat} (h : 0 < n) : ixN n (-1) = some (n - 1) := by
  unfold ixN
  rw [if_neg (by omega), if_pos (by omega)]
  congr 1
  omega
theorem at_last {xs : List V} {v : V} (h : xs[xs.length - 1]? = some v) : atI xs (-1) = some v := by
  have h0 : 0 < xs.length := by
    by_cases c : 0 < xs.length
    · exact c
    · rw [List.getElem?_eq_none (by omega)] at h; cases h
  unfold atI
  rw [ix_last h0]
  exact h
theorem good_last {ls : List Ln} (G : GoodL ls) : 0 < ls.length ∧ ls[ls.length - 1]? = some .stop := by
  obtain ⟨pre, e, _⟩ := G.last
  subst e
  simp
theorem S_last {F : Nat → Bool} {ls : List Ln} (G : GoodL ls) : S F ls ls.length = S F ls (ls.length - 1) + 1 := by
  obtain ⟨h0, h1⟩ := good_last G
  have := S_succ (F := F) h1
  rw [show ls.length - 1 + 1 = ls.length by omega] at this
  rw [this]; rfl
theorem starts_last {F : Nat → Bool} {ls : List Ln} (G : GoodL ls) : (nats (starts 0 (szs F 0 ls)))[(nats (starts 0 (szs F 0 ls))).length - 1]? = some (.int (S F ls (ls.length - 1) : Int)) := by
  obtain ⟨h0, _⟩ := good_last G
  rw [List.length_map, starts_len, szs_len, List.getElem?_map, starts_S (by omega)]; rfl
theorem asm_pre {F : Nat → Bool} {ls : List Ln} {i : Nat} {l : Ln} (h : ls[i]? = some l) : ∀ n, i + 1 ≤ n → n ≤ ls.length → ∃ rest, asmTo F ls n = asmTo F ls i ++ (wordsOf F ls i l ++ rest)
  | 0, h1, _ => by omega
  | n + 1, h1, h2 => by
    by_cases c : n = i
    · subst c
      exact ⟨[], by rw [asm_succ h, List.append_nil]⟩
    · obtain ⟨rest, e⟩ := asm_pre h n (by omega) (by omega)
      have en : ls[n]? = some ls[n] := List.getElem?_eq_getElem (by omega)
      exact ⟨rest ++ wordsOf F ls n ls[n], by rw [asm_succ en, e, List.append_assoc, List.append_assoc]⟩
theorem asm_at {F : Nat → Bool} {ls : List Ln} {i k : Nat} {l : Ln} {v : Int} (h : ls[i]? = some l) (hk : (wordsOf F ls i l)[k]? = some v) : ((asmTo F ls ls.length).map V.int)[S F ls i + k]? = some (.int v) := by
  have hi : i < ls.length := by
    by_cases c : i < ls.length
    · exact c
    · rw [List.getElem?_eq_none (by omega)] at h; cases h
  have hkl : k < (wordsOf F ls i l).length := by
    by_cases c : k < (wordsOf F ls i l).length
    · exact c
    · rw [List.getElem?_eq_none (by omega)] at hk; cases hk
  obtain ⟨rest, e⟩ := asm_pre (F := F) h ls.length (by omega) (Nat.le_refl _)
  rw [List.getElem?_map, e, List.getElem?_append_right (by rw [asm_len i (by omega)]; omega), asm_len i (by omega), Nat.add_sub_cancel_left, List.getElem?_append_left hkl, hk]; rfl
theorem flat_putK {acc : List (Key × V)} {k : Key} {v : V} (h : ∀ p ∈ acc, flatB p.2 = true) (hv : flatB v = true) : ∀ p ∈ putK acc k v, flatB p.2 = true := by
  intro p hp
  unfold putK at hp
  split at hp
  · obtain ⟨q, hq, rfl⟩ := List.mem_map.mp hp
    split
    · exact hv
    · exact h q hq
  · rcases List.mem_append.mp hp with z | z
    · exact h p z
    · rw [List.mem_singleton.mp z]; exact hv
theorem labs_flat : ∀ (ls : List Ln) (zs : List Nat) (s : Nat) (acc : List (Key × V)), (∀ p ∈ acc, flatB p.2 = true) → ∀ p ∈ labs s ls zs acc, flatB p.2 = true
  | [], _, _, _, h => by unfold labs; exact h
  | l :: ls, [], _, _, h => by unfold labs; exact h
  | l :: ls, z :: zs, s, acc, h => by
    unfold labs
    refine labs_flat ls zs (s + z) _ ?_
    cases l with
    | lab n => exact flat_putK h rfl
    | _ => exact h
def turnedK : List (Key × V) := [(.inr "beq", .str "bne"), (.inr "bne", .str "beq"), (.inr "blt", .str "bge"), (.inr "bge", .str "blt"), (.inr "bltu", .str "bgeu"), (.inr "bgeu", .str "bltu")]
theorem turned_merge : mergeK [] turnedK = turnedK := by kernel_rfl
theorem turned_get {o : Nat} (h : o < 6) : valV turnedK (.inr (opn o)) = some (.str (opn (trn o))) := by
  match o, h with
  | 0, _ | 1, _ | 2, _ | 3, _ | 4, _ | 5, _ => kernel_rfl
  | n + 6, h => omega
def insD : Ins → PyData
  | .addi => .tuple [.str "addi", .int 0, .int 0, .int 0]
  | .ebreak => .tuple [.str "ebreak", .int 0, .int 0, .int 0]
  | .br o k => .tuple [.str (opn o), .int 10, .int 11, .int (4 * k)]
  | .jal k => .tuple [.str "jal", .int 0, .int (4 * k), .int 0]
theorem dp_ins {K : PySem.W.Frag} {H : Hp} {t : Addr} {i : Ins} (h : H t = some (.tup (insV i))) : Dp K H (.ref t) (insD i) := by
  cases i <;> exact Dp.tup (SqT.of h) (.cons (.str _) (.cons (.int _) (.cons (.int _) (.cons (.int _) .nil))))
theorem insD_same (i : Ins) : PyData.eqv (insD i) (insD i) = true := by
  cases i <;> simp [insD, PyData.eqv, PyData.eqvAll]
theorem opn_ok {o : Nat} (h : o < 6) : PyData.canLay0 (.str (opn o)) = true := by
  match o, h with
  | 0, _ | 1, _ | 2, _ | 3, _ | 4, _ | 5, _ => kernel_rfl
  | n + 6, h => omega
theorem shp4 {x : Str} {a b c : Int} (h : PyData.canLay0 (.str x) = true) : SeqAt.shaped (.tuple [.str x, .int a, .int b, .int c]) = true := by
  unfold SeqAt.shaped
  simp [PyData.canLay0, PyData.canLayAll0, PyData.depth, PyData.depthAll] at *
  exact h
theorem insD_ok {i : Ins} (h : insOk i) : SeqAt.shaped (insD i) = true := by
  cases i with
  | br o k => exact shp4 (opn_ok h.1)
  | _ => exact shp4 (by kernel_rfl)
def trapD (n : Int) : PyData := .list [.tuple [.int n, .str "told"]]
theorem trapD_same (n : Int) : PyData.eqv (trapD n) (trapD n) = true := by
  simp [trapD, PyData.eqv, PyData.eqvAll]
theorem trapD_ok (n : Int) : SeqAt.shaped (trapD n) = true := by
  have h : PyData.canLay0 (.str "told") = true := by kernel_rfl
  unfold SeqAt.shaped trapD
  simp [PyData.canLay0, PyData.canLayAll0, PyData.depth, PyData.depthAll] at *
  exact h
theorem dp_trap {K : PySem.W.Frag} {H : Hp} {a e : Addr} {n : Int} (h : H a = some (.lst [.ref e])) (he : H e = some (.tup [.int n, .str "told"])) : Dp K H (.ref a) (trapD n) :=
  Dp.lst (SqL.of h) (.cons (.tup (SqT.of he) (.cons (.int _) (.cons (.str _) .nil))) .nil)
theorem dp_nil {K : PySem.W.Frag} {H : Hp} {a : Addr} (h : H a = some (.lst [])) : Dp K H (.ref a) (.list []) := Dp.lst (SqL.of h) .nil
structure Wd (K : PySem.W.Frag) (H : Hp) (l tp D pl lb m w p q t b e td : Addr) (ls : List Ln) (fs : List Nat) (F : Nat → Bool) : Prop where
  L : Lines H l ls
  tp : H tp = some (.lst (nats fs))
  D : H D = some (.lst (nats (brs ls)))
  pl : H pl = some (.lst (nats (starts 0 (szs F 0 ls))))
  lb : H lb = some (.dK (labs 0 ls (szs F 0 ls) []))
  A : Asm K H m w p q t b (asmTo F ls ls.length) [.ref e]
  b : H b = some (.dK (labs 0 ls (szs F 0 ls) []))
  e : H e = some (.tup [.int (S F ls (ls.length - 1) : Int), .str "told"])
  td : H td = some (.dK turnedK)
theorem Wd.same {K : PySem.W.Frag} {H H' : Hp} {l tp D pl lb m w p q t b e td : Addr} {ls : List Ln} {fs : List Nat} {F : Nat → Bool} (h : Wd K H l tp D pl lb m w p q t b e td ls fs F) (s : Same H H') : Wd K H' l tp D pl lb m w p q t b e td ls fs F :=
  ⟨Lines.same s h.L, s _ _ h.tp, s _ _ h.D, s _ _ h.pl, s _ _ h.lb, h.A.same s, s _ _ h.b, s _ _ h.e, s _ _ h.td⟩
theorem dist_le {F : Nat → Bool} {ls : List Ln} (hl : ls.length ≤ 6000) {i g j : Nat} (hi : i ≤ ls.length) (h : lastLab g ls = some j) : -12000 ≤ dist F ls i g ∧ dist F ls i g ≤ 12000 := by
  have h1 := S_le F ls i
  have h2 := S_le F ls j
  have h3 := lastLab_lt g ls j h
  have h4 : dist F ls i g = (S F ls j : Int) - (S F ls i : Int) := (dist_eq h).symm
  omega
section
variable {P : Program} {w : World} {K : PySem.W.Frag} {mg : Str → Option Value} {base : Heap}
theorem sc_law : FnScope ["script", "draw", "lines", "told", "branches", "number", "piece", "turned", "at", "is_right", "places", "labels", "some", "far", "line", "place"] ["script"] (defScope s_law) := ⟨rfl, rfl, rfl, by decide +kernel, rfl, by decide +kernel, by decide +kernel⟩
theorem g_law (T : Txt K mg w) (G__law_lines : Gd P w K mg base CX0 5 "_law_lines" ["draw", "branches"] (sp__law_lines K)) (G__law_next : Gd P w K mg base CX0 3 "_law_next" ["draw", "bound"] (sp__law_next K)) (G_long_branches : Gd P w K mg base CX0 2 "long_branches" ["lines"] (sp_long_branches K)) (G__law_fits : Gd P w K mg base CX0 2 "_law_fits" ["lines", "long"] (sp__law_fits K)) (G_assembled : Gd P w K mg base CX0 7 "assembled" ["lines"] (sp_assembled K)) (G_decode : Gd P w K mg base CX0 3 "decode" ["word"] (sp_decode K)) (G__law_size : Gd P w K mg base CX0 1 "_law_size" ["lines", "at", "long"] (sp__law_size K)) : Gd P w K mg base CX0 8 "law" ["script"] (sp_law K) := by
  have sc := sc_law
  refine T.d_law.ok sc len1 (fun _ _ _ _ _ _ us hl => match us, hl with | [_], _ => rfl) (fun f cdv A outer s H vs Q E hr h => ?_)
  obtain ⟨x0, rfl, h⟩ := h
  obtain ⟨sl, ns, rfl, hS, h⟩ := h
  refine ⟨_, (pss_cons (ps_set (i := 1) sc.nd rfl (Or.inl rfl) (pe_lst (pa_cons (pe_slice sl_list (pv 0) po_none (po_some pe_int)) (pa_cons pe_int (pa_cons pe_int pa_nil)))))
      (pss_cons (ps_set (i := 2) sc.nd rfl (Or.inl rfl) (pe_g G__law_lines (hr.mono (by omega)) pass0 (pa_cons (pv 1) (pa_cons (pe_op op_add pe_int (pe_g G__law_next (hr.mono (by omega)) pass0 (pa_cons (pv 1) (pa_cons pe_int pa_nil)))) pa_nil))))
      (pss_cons (ps_set (i := 3) sc.nd rfl (Or.inl rfl) (pe_callB (call_sortedDI rfl) (by rfl) T.n_sorted (by decide +kernel) (pa_cons (pe_g G_long_branches (hr.mono (by omega)) pass0 (pa_cons (pv 2) pa_nil)) pa_nil)))
      (pss_cons (ps_set (i := 4) sc.nd rfl (Or.inr rfl) (pe_lc (own := [("at", 8), ("line", 14)]) (g := gTup K 2 (gCons (gName 8) (gCons (gName 14) (gNil)))) (by rfl) sc.nd (pi_enum rfl T.n_enumerate (pa_cons (pv 2) pa_nil)) (blkOk_by (own := [("at", 8), ("line", 14)]) (N := ["script", "draw", "lines", "told", "branches", "number", "piece", "turned", "at", "is_right", "places", "labels", "some", "far", "line", "place"]) (sc := defScope s_law) (by decide +kernel)) (fun _ _ _ _ _ => (pg_tup rfl (pgs_cons (pg_name (i := 8) sc.nd rfl (Or.inl rfl)) (pgs_cons (pg_name (i := 14) sc.nd rfl (Or.inl rfl)) pgs_nil)))) (fun _ _ _ _ _ => (pts_one (pt_cmpR op_eq (pe_ix (ix_tup : IxR _ (rIxT K)) (pv 14) pe_int (fun _ _ => rfl)) pe_str (nomark _)))) (fun _ _ _ _ _ => (pv 8))) (Kg.sw_cell rfl))
      (pss_cons (ps_asg (pe_g G__law_fits (hr.mono (by omega)) pass0 (pa_cons (pv 2) (pa_cons (pv 3) pa_nil))) (pg_tup rfl (pgs_cons (pg_name (i := 9) sc.nd rfl (Or.inl rfl)) (pgs_cons (pg_name (i := 10) sc.nd rfl (Or.inl rfl)) (pgs_cons (pg_name (i := 11) sc.nd rfl (Or.inl rfl)) pgs_nil)))))
      (pss_cons (ps_if (PW.pt (pw_or (pt_not (pt_val (pv 9))) (pw_or1 (pt_not (pt_val (pe_callB (cr_all rfl) (by rfl) T.n_all (by decide +kernel) (pa_cons (pe_lc (own := [("at", 8)]) (g := gName 8) (by rfl) sc.nd (pi_list (pv 3)) (blkOk_by (own := [("at", 8)]) (N := ["script", "draw", "lines", "told", "branches", "number", "piece", "turned", "at", "is_right", "places", "labels", "some", "far", "line", "place"]) (sc := defScope s_law) (by decide +kernel)) (fun _ _ _ _ _ => (pg_name (i := 8) sc.nd rfl (Or.inl rfl))) (fun _ _ _ _ _ => pts_nil) (fun _ _ _ _ _ => (pe_cmpR (op_in_seq : OpR _ _ (rIn K false)) (pv 8) (pv 4) rfl))) pa_nil))))))) (pss_one (ps_ret pe_bl)) pss_nil)
      (pss_cons (ps_for PassesOwn.never rfl (pi_range1 rfl T.n_range (pa_cons (pe_op op_shl pe_int (pe_callB call_len_seq (by rfl) T.n_len PySem.boot_len (pa_cons (pv 4) pa_nil))) pa_nil)) (pg_name (i := 5) sc.nd rfl (Or.inr rfl)) (pss_cons (ps_set (i := 12) sc.nd rfl (Or.inr rfl) (pe_lc (own := [("place", 15), ("at", 8)]) (g := gTup K 2 (gCons (gName 15) (gCons (gName 8) (gNil)))) (by rfl) sc.nd (pi_enum rfl T.n_enumerate (pa_cons (pv 4) pa_nil)) (blkOk_by (own := [("place", 15), ("at", 8)]) (N := ["script", "draw", "lines", "told", "branches", "number", "piece", "turned", "at", "is_right", "places", "labels", "some", "far", "line", "place"]) (sc := defScope s_law) (by decide +kernel)) (fun _ _ _ _ _ => (pg_tup rfl (pgs_cons (pg_name (i := 15) sc.nd rfl (Or.inl rfl)) (pgs_cons (pg_name (i := 8) sc.nd rfl (Or.inl rfl)) pgs_nil)))) (fun _ _ _ _ _ => (pts_one (pt_cmpR op_eq (pe_op op_and (pe_op op_shr (pv 5) (pv 15)) pe_int) pe_int (nomark _)))) (fun _ _ _ _ _ => (pv 8))) (Kg.sw_cell rfl))
      (pss_one (ps_if (PW.pt (pw_and (pt_val (pe_ix ix_tup (pe_g G__law_fits (hr.mono (by omega)) pass0 (pa_cons (pv 2) (pa_cons (pv 12) pa_nil))) pe_int (fun _ _ => rfl))) (pw_and1 (pt_not (pt_val (pe_callB (cr_all rfl) (by rfl) T.n_all (by decide +kernel) (pa_cons (pe_lc (own := [("at", 8)]) (g := gName 8) (by rfl) sc.nd (pi_list (pv 3)) (blkOk_by (own := [("at", 8)]) (N := ["script", "draw", "lines", "told", "branches", "number", "piece", "turned", "at", "is_right", "places", "labels", "some", "far", "line", "place"]) (sc := defScope s_law) (by decide +kernel)) (fun _ _ _ _ _ => (pg_name (i := 8) sc.nd rfl (Or.inl rfl))) (fun _ _ _ _ _ => pts_nil) (fun _ _ _ _ _ => (pe_cmpR (op_in_seq : OpR _ _ (rIn K false)) (pv 8) (pv 12) rfl))) pa_nil))))))) (pss_one (ps_ret pe_bl)) pss_nil))))
      (pss_cons (ps_set (i := 6) sc.nd rfl (Or.inl rfl) (pe_g G_assembled (hr.mono (by omega)) pass0 (pa_cons (pv 2) pa_nil)))
      (pss_cons (ps_set (i := 7) sc.nd rfl (Or.inl rfl) (pe_disp (pps_cons pe_str pe_str (pps_cons pe_str pe_str (pps_cons pe_str pe_str (pps_cons pe_str pe_str (pps_cons pe_str pe_str (pps_cons pe_str pe_str pps_nil)))))) rfl rfl (by simp) (by decide)))
      (pss_cons (ps_if (PW.pt (pw_or (pt_cmpR op_ne (pe_callB call_len_seq (by rfl) T.n_len PySem.boot_len (pa_cons (pe_fld (pv 6) rfl) pa_nil)) (pe_op op_add (pe_ix ix_list (pv 10) (pe_un un_neg pe_int) (fun _ _ => rfl)) pe_int) (nomark _)) (pw_or (pt_cmpR op_ne (pe_callB call_len_seq (by rfl) T.n_len PySem.boot_len (pa_cons (pe_fld (pv 6) rfl) pa_nil)) (pe_callB call_len_seq (by rfl) T.n_len PySem.boot_len (pa_cons (pe_fld (pv 6) rfl) pa_nil)) (nomark _)) (pw_or (pt_cmpR (op_ne_dictA (Nat.lt_of_le_of_lt (Nat.le_add_right _ _) hr.units)) (pe_fld (pv 6) rfl) (pv 11) (nomark _)) (pw_or1 (pt_cmpR (op_neD hr.units) (pe_callTy call_list_of (by rfl) T.n_list (by decide +kernel) (pa_cons (pe_fld (pv 6) rfl) pa_nil)) (pe_lst (pa_cons (pe_tup (pa_cons (pe_ix ix_list (pv 10) (pe_un un_neg pe_int) (fun _ _ => rfl)) (pa_cons pe_str pa_nil))) pa_nil)) (nomark _))))))) (pss_one (ps_ret pe_bl)) pss_nil)
      (pss_cons (ps_for PassesOwn.never rfl (pi_list (pv 4)) (pg_name (i := 8) sc.nd rfl (Or.inl rfl)) (pss_cons (ps_par (i := 14) (j := 15) (by rfl) sc.nd rfl rfl (by decide) rfl rfl (pa_cons (pe_ix ix_list (pv 2) (pv 8) (fun _ _ => rfl)) (pa_cons (pe_ix ix_list (pv 10) (pv 8) (fun _ _ => rfl)) pa_nil)) (by rfl))
      (pss_cons (ps_set (i := 13) sc.nd rfl (Or.inl rfl) (pe_op op_sub (pe_dget (hu_of hr) (pv 11) (pe_ix ix_tup (pv 14) pe_int (fun _ _ => rfl)) (fun _ _ => rfl)) (pv 15)))
      (pss_one (ps_if (pt_cmpR op_in_seq (pv 8) (pv 3) rfl) (pss_one (ps_if (PW.pt (pw_or (pt_cmpR (op_neD hr.units) (pe_g G_decode (hr.mono (by omega)) pass0 (pa_cons (pe_ix ix_list (pe_fld (pv 6) rfl) (pv 15) (fun _ _ => rfl)) pa_nil)) (pe_tup (pa_cons (pe_dget (hu_of hr) (pv 7) (pe_ix ix_tup (pv 14) pe_int (fun _ _ => rfl)) (fun _ _ => rfl)) (pa_cons pe_int (pa_cons pe_int (pa_cons pe_int pa_nil))))) (nomark _)) (pw_or1 (pt_cmpR (op_neD hr.units) (pe_g G_decode (hr.mono (by omega)) pass0 (pa_cons (pe_ix ix_list (pe_fld (pv 6) rfl) (pe_op op_add (pv 15) pe_int) (fun _ _ => rfl)) pa_nil)) (pe_tup (pa_cons pe_str (pa_cons pe_int (pa_cons (pe_op op_mul pe_int (pe_op op_sub (pv 13) pe_int)) (pa_cons pe_int pa_nil))))) (nomark _))))) (pss_one (ps_ret pe_bl)) pss_nil)) (pss_one (ps_if (pt_cmpR (op_neD hr.units) (pe_g G_decode (hr.mono (by omega)) pass0 (pa_cons (pe_ix ix_list (pe_fld (pv 6) rfl) (pv 15) (fun _ _ => rfl)) pa_nil)) (pe_tup (pa_cons (pe_ix ix_tup (pv 14) pe_int (fun _ _ => rfl)) (pa_cons pe_int (pa_cons pe_int (pa_cons (pe_op op_mul pe_int (pv 13)) pa_nil))))) (nomark _)) (pss_one (ps_ret pe_bl)) pss_nil)))))))
      (pss_cons (ps_for PassesOwn.never rfl (pi_enum rfl T.n_enumerate (pa_cons (pv 2) pa_nil)) (pg_tup rfl (pgs_cons (pg_name (i := 8) sc.nd rfl (Or.inl rfl)) (pgs_cons (pg_name (i := 14) sc.nd rfl (Or.inl rfl)) pgs_nil))) (pss_one (ps_if (PW.pt (pw_and (pt_cmpR op_eq (pe_ix ix_tup (pv 14) pe_int (fun _ _ => rfl)) pe_str (nomark _)) (pw_and (pt_cmpR op_eq (pe_g G__law_size (hr.mono (by omega)) pass0 (pa_cons (pv 2) (pa_cons (pv 8) (pa_cons (pv 3) pa_nil)))) pe_int (nomark _)) (pw_and1 (pt_cmpR (op_neD hr.units) (pe_g G_decode (hr.mono (by omega)) pass0 (pa_cons (pe_ix ix_list (pe_fld (pv 6) rfl) (pe_ix ix_list (pv 10) (pv 8) (fun _ _ => rfl)) (fun _ _ => rfl)) pa_nil)) (pe_tup (pa_cons pe_str (pa_cons pe_int (pa_cons (pe_op op_mul pe_int (pe_op op_sub (pe_dget (hu_of hr) (pv 11) (pe_ix ix_tup (pv 14) pe_int (fun _ _ => rfl)) (fun _ _ => rfl)) (pe_ix ix_list (pv 10) (pv 8) (fun _ _ => rfl)))) (pa_cons pe_int pa_nil))))) (nomark _)))))) (pss_one (ps_ret pe_bl)) pss_nil)))
      (pss_one (ps_ret (pe_cmpR (op_eqD hr.units) (pe_callTy call_list_of (by rfl) T.n_list (by decide +kernel) (pa_cons (pe_fld (pv 6) rfl) pa_nil)) (pe_lst pa_nil) (nomark _)))))))))))))))), ?_⟩
  obtain ⟨ms, hms⟩ := cut_ints ns none (some 63)
  refine ⟨_, rfl, 63, rfl, sl, _, rfl, hS, fun s0 hs0 => ?_⟩
  rw [hms]
  refine ⟨(by show 3 ≤ sizeLine; decide), fun d hd => ?_⟩
  have sd : s0 ≠ d := ne_of_none upd_same hd
  generalize hH1 : upd (upd H s0 (.lst (ms.map V.int))) d (.lst [.ref s0, .int 0, .int 0]) = H1 at *
  have hd1 : H1 d = some (.lst [.ref s0, .int 0, .int 0]) := by rw [← hH1]; exact upd_same
  have hs1 : H1 s0 = some (.lst (ms.map V.int)) := by rw [← hH1, upd_ne sd]; exact upd_same
  refine ⟨_, rfl, _, rfl, _, _, rfl, d, s0, ms, 0, 4, rfl, rfl, hd1, hs1, by decide, by decide, by decide, fun r H2 r0 r1 e1 e2 => ?_⟩
  obtain ⟨r', rfl⟩ : ∃ r' : Nat, r = (r' : Int) := ⟨r.toNat, by omega⟩
  refine ⟨_, _, rfl, rfl, _, _, rfl, d, s0, ms, 0 + 1, 2 + r', rfl, (by rw [Int.natCast_add]; rfl), e2, e1 _ _ hs1 (by simpa using sd), by decide, by decide, by omega, fun H3 l ls e3 L G nl => ?_⟩
  clear hd1 hs1 e1 e2 e3 nl hH1 hd hs0 hS
  refine ⟨_, rfl, _, rfl, l, ls, rfl, L, G, fun F H4 db B s4 ndb hdb => ?_⟩
  have hfl : ((brs ls).filter F).length ≤ 60 := Nat.le_trans (List.length_filter_le _ _) G.few
  refine ⟨db, _, _, rfl, Rd.of hdb, keys_ints _, (by rw [List.length_map]; omega), fun ys tp hp _ ntp => ?_⟩
  obtain ⟨fs, hys, hfs⟩ := told_nats hp
  rw [hys]
  have hF : (fun j => decide (j ∈ fs)) = F := by
    funext j
    cases e : F j with
    | true => exact decide_eq_true ((hfs j).mpr (List.mem_filter.mpr ⟨B.sub j e, e⟩))
    | false => exact decide_eq_false (fun q => by rw [(List.mem_filter.mp ((hfs j).mp q)).2] at e; cases e)
  have hsub : ∀ j ∈ fs, j ∈ brs ls := fun j hj => (List.mem_filter.mp ((hfs j).mp hj)).1
  have hfsl : fs.length ≤ 60 := by
    have := hp.length_eq
    have e2 : (ys.map V.int).length = (nats fs).length := by rw [hys]
    simp only [List.length_map] at *
    omega
  have L5 := Lines.same (Same.tr s4 (same_new (o := .lst (nats fs)) ntp)) L
  have ht5 : upd H4 tp (.lst (nats fs)) tp = some (.lst (nats fs)) := upd_same
  generalize upd H4 tp (.lst (nats fs)) = H5 at *
  clear s4 ndb hdb ntp hp hys L
  obtain ⟨as, hl5, hL5, hll⟩ := id L5
  have hal := hL5.len
  refine ⟨_, rfl, l, as.map V.ref, rfl, SqL.of hl5, fun D hD => ?_⟩
  refine lc_it (walk_enum (K := K) (a := l) (xs := as.map V.ref)) (fun i H' => Same H5 H' ∧ H' D = some (.lst (nats ((List.range i).filter fun j => isBr (ls.getD j .nop))))) ⟨same_new hD, upd_same⟩ (fun i H' _ p => SqL.of (p.1 _ _ hl5)) (fun i x H6 H7 hi p y => ?_) (fun H6 p => ?_)
  · obtain ⟨Tt, x, y, rfl, hT, rfl, e1, e2⟩ := y
    injection e1 with e1
    subst e1
    rw [List.length_map, hal] at hi
    obtain ⟨a, ha, rfl⟩ := ref_get e2
    obtain ⟨ln, hln, hat⟩ := hL5.at ha
    have sT : Same H5 (upd H6 Tt (.tup [.int (i : Nat), .ref a])) := Same.tr p.1 (same_new hT)
    obtain ⟨xs', hf⟩ := (hat.keep (as := []) (ButL.same sT) (fun a z => by cases z)).first
    have DT : D ≠ Tt := ne_of_none p.2 hT
    have ekd : isBr (ls.getD i .nop) = isBr ln := by rw [List.getD_eq_getElem?_getD, hln]; rfl
    refine ⟨Tt, _, rfl, SqT.of upd_same, rfl, _, _, rfl, _, _, rfl, rfl, rfl, ?_⟩
    refine ⟨_, rfl, a, _, 0, _, rfl, rfl, SqT.of hf, at_of (j := 0) rfl rfl, rfl, _, rfl, ?_⟩
    rw [kind_br]
    have hlc : (nats ((List.range i).filter fun j => isBr (ls.getD j .nop))).length < sizeLine := by
      rw [List.length_map]
      have := List.length_filter_le (fun j => isBr (ls.getD j .nop)) (List.range i)
      rw [List.length_range] at this
      exact tup_lt (by omega)
    cases eb : isBr ln with
    | true =>
      refine if_true_of rfl ?_
      refine ⟨_, rfl, _, (by rw [upd_ne DT]; exact p.2), hlc, same_put sT hD, ?_⟩
      rw [upd_same, brs_take hi, ekd, eb, if_pos rfl, nats_snoc]
    | false =>
      refine if_false_of rfl ⟨sT, ?_⟩
      rw [upd_ne DT, brs_take hi, ekd, eb, if_neg Bool.false_ne_true, List.append_nil]
      exact p.2
  obtain ⟨s6, hDv⟩ := p
  rw [List.length_map, hal] at hDv
  have hDv : H6 D = some (.lst (nats (brs ls))) := hDv
  refine ⟨_, rfl, _, rfl, _, _, rfl, l, tp, ls, fs, rfl, rfl, Lines.same s6 L5, G, s6 _ _ ht5, fun H7 t pl lb s7 ht _ _ hpl hlb => ?_⟩
  rw [hF] at ht hpl hlb
  rw [fitB_iff.mpr B.fit] at ht
  refine ⟨t, _, rfl, SqT.of ht, rfl, _, _, rfl, _, _, rfl, _, _, rfl, rfl, ?_⟩
  have L7 := Lines.same (Same.tr s6 s7) L5
  have ht7 := Same.tr s6 s7 _ _ ht5
  have hD7 := s7 _ _ hDv
  clear ht s6 s7 hDv hD L5 ht5 hl5 hL5
  refine ⟨_, rfl, _, rfl, if_false_of rfl ?_⟩
  refine ⟨_, rfl, tp, rfl, ⟨_, SqL.of ht7⟩, fun E hE => ?_⟩
  refine lc_it (walk_list (K := K) (a := tp) (xs := nats fs)) (fun i H' => Same H7 H' ∧ H' E = some (.lst (((fs.take i).map fun j => decide (j ∈ brs ls)).map V.bl))) ⟨same_new hE, upd_same⟩ (fun i H' _ p => SqL.of (p.1 _ _ ht7)) (fun i x Ha Hb hi p y => ?_) (fun H8 p => ?_)
  · obtain ⟨rfl, hx⟩ := y
    obtain ⟨n, hn, rfl⟩ := nat_get hx
    refine ⟨rfl, ?_⟩
    unfold tYes
    dsimp only
    rw [if_pos rfl]
    refine ⟨_, rfl, _, rfl, D, nats (brs ls), rfl, Or.inl (SqL.of (p.1 _ _ hD7)), rfl, flat_nats _, _, p.2, ?_, same_put p.1 hE, ?_⟩
    · rw [List.length_map, List.length_map, List.length_take]; exact tup_lt (by omega)
    · show upd _ _ (.lst (_ ++ [V.bl (inV (.int (n : Int)) (nats (brs ls)))])) _ = _
      rw [upd_same, inV_nats, take_succ hn, List.map_append, List.map_append]; rfl
  obtain ⟨s8, hE8⟩ := p
  rw [List.length_map, List.take_length] at hE8
  refine ⟨E, _, rfl, SqL.of hE8, _, rfl, ?_⟩
  have eall : ((fs.map fun j => decide (j ∈ brs ls)).all id) = true := by
    rw [List.all_eq_true]
    intro c hc
    obtain ⟨j, hj, rfl⟩ := List.mem_map.mp hc
    exact decide_eq_true (hsub j hj)
  rw [eall]
  refine if_false_of rfl ?_
  have L8 := Lines.same s8 L7
  have ht8 := s8 _ _ ht7
  have hD8 := s8 _ _ hD7
  have hpl8 := s8 _ _ hpl
  have hlb8 := s8 _ _ hlb
  clear hE8 s8 L7 ht7 hD7 hpl hlb hE
  have hbl : (nats (brs ls)).length ≤ 60 := by rw [List.length_map]; exact G.few
  have hpow : (2 : Int) ^ ((nats (brs ls)).length : Int).toNat ≤ 2 ^ 60 := by
    have e : ((nats (brs ls)).length : Int).toNat = (nats (brs ls)).length := rfl
    rw [e]
    have := Nat.pow_le_pow_right (show 0 < 2 by decide) hbl
    have e2 : (2 : Int) ^ (nats (brs ls)).length = ((2 ^ (nats (brs ls)).length : Nat) : Int) := by rw [Int.natCast_pow]; rfl
    rw [e2]
    exact Int.ofNat_le.mpr this
  have hpow0 : (0 : Int) < 2 ^ ((nats (brs ls)).length : Int).toNat := Int.pow_pos (by decide)
  refine ⟨_, rfl, D, _, rfl, Or.inl (SqL.of hD8), _, _, rfl, rfl, ⟨by omega, by omega, by decide⟩, _, rfl, by omega, by omega, ?_⟩
  refine for_range (n := (1 * (2 : Int) ^ ((nats (brs ls)).length : Int).toNat).toNat) (fun t σ H' => ∃ (v5 v12 : Option V), σ = [some (.ref sl), some (.ref d), some (.ref l), some (.ref tp), some (.ref D), v5, none, none, none, some (.bl true), some (.ref pl), some (.ref lb), v12, none, none, none] ∧ Same H8 H') ?_ ?_ ?_
  · exact ⟨_, _, rfl, Same.rf⟩
  · rintro t σ H9 ht ⟨v5, v12, rfl, s9⟩
    have L9 := Lines.same s9 L8
    have ht9 := s9 _ _ ht8
    have hD9 := s9 _ _ hD8
    refine ⟨_, rfl, D, nats (brs ls), rfl, SqL.of hD9, fun E2 hE2 => ?_⟩
    refine lc_it (walk_enum (K := K) (a := D) (xs := nats (brs ls))) (fun i H' => Same H9 H' ∧ ∃ gs : List Nat, H' E2 = some (.lst (nats gs)) ∧ gs.length ≤ i) ⟨same_new hE2, [], upd_same, Nat.le_refl _⟩ (fun i H' _ p => SqL.of (p.1 _ _ hD9)) (fun i x Ha Hb hi p y => ?_) (fun H10 p => ?_)
    · obtain ⟨Tt, x, y, rfl, hT, rfl, e1, e2⟩ := y
      injection e1 with e1
      subst e1
      obtain ⟨n, hn, rfl⟩ := nat_get e2
      obtain ⟨s10, gs, hgs, hgl⟩ := p
      have ET : E2 ≠ Tt := ne_of_none hgs hT
      refine ⟨Tt, _, rfl, SqT.of upd_same, rfl, _, _, rfl, _, _, rfl, rfl, rfl, ?_⟩
      refine ⟨_, rfl, _, rfl, _, _, rfl, rfl, (by omega : (0 : Int) ≤ (i : Int)), _, _, rfl, rfl, rfl, _, rfl, ite2 (fun _ => ?_) (fun _ => ?_)⟩
      · refine ⟨_, rfl, _, (by rw [upd_ne ET]; exact hgs), ?_, same_put (Same.tr s10 (same_new hT)) hE2, gs ++ [n], ?_, ?_⟩
        · rw [List.length_map]; exact tup_lt (by omega)
        · rw [upd_same, nats_snoc]
        · rw [List.length_append, List.length_singleton]; omega
      · exact ⟨Same.tr s10 (same_new hT), gs, (by rw [upd_ne ET]; exact hgs), by omega⟩
    · obtain ⟨s10, gs, hgs, hgl⟩ := p
      have L10 := Lines.same s10 L9
      refine ⟨_, rfl, _, rfl, _, _, rfl, l, E2, ls, gs, rfl, rfl, L10, G, hgs, fun H12 t9 p9 b9 s12 ht12' _ _ _ _ => ?_⟩
      refine ⟨t9, _, 0, _, rfl, rfl, SqT.of ht12', at_of (j := 0) rfl rfl, _, rfl, ?_⟩
      have s912 := Same.tr s10 s12
      have ht12 := s912 _ _ ht9
      have hg12 := s12 _ _ hgs
      cases hfit : fitB (fun j => decide (j ∈ gs)) ls with
      | false =>
        refine if_false_of rfl (if_false_of rfl ?_)
        exact ⟨_, _, rfl, Same.tr s9 s912⟩
      | true =>
        refine if_true_of rfl ?_
        refine ⟨_, rfl, tp, rfl, ⟨_, SqL.of ht12⟩, fun E3 hE3 => ?_⟩
        refine lc_it (walk_list (K := K) (a := tp) (xs := nats fs)) (fun i H' => Same H12 H' ∧ H' E3 = some (.lst (((fs.take i).map fun j => decide (j ∈ gs)).map V.bl))) ⟨same_new hE3, upd_same⟩ (fun i H' _ p => SqL.of (p.1 _ _ ht12)) (fun i x Ha Hb hi p y => ?_) (fun H13 p => ?_)
        · obtain ⟨rfl, hx⟩ := y
          obtain ⟨n, hn, rfl⟩ := nat_get hx
          refine ⟨rfl, ?_⟩
          unfold tYes
          dsimp only
          rw [if_pos rfl]
          refine ⟨_, rfl, _, rfl, E2, nats gs, rfl, Or.inl (SqL.of (p.1 _ _ hg12)), rfl, flat_nats _, _, p.2, ?_, same_put p.1 hE3, ?_⟩
          · rw [List.length_map, List.length_map, List.length_take]; exact tup_lt (by omega)
          · show upd _ _ (.lst (_ ++ [V.bl (inV (.int (n : Int)) (nats gs))])) _ = _
            rw [upd_same, inV_nats, take_succ hn, List.map_append, List.map_append]; rfl
        obtain ⟨s13, hE13⟩ := p
        rw [List.length_map, List.take_length] at hE13
        refine ⟨E3, _, rfl, SqL.of hE13, _, rfl, ?_⟩
        have eall2 : ((fs.map fun j => decide (j ∈ gs)).all id) = true := by
          rw [List.all_eq_true]
          intro c hc
          obtain ⟨j, hj, rfl⟩ := List.mem_map.mp hc
          have hFj : F j = true := by rw [← hF]; exact decide_eq_true hj
          exact B.least _ (fitB_iff.mp hfit) j hFj
        rw [eall2]
        refine if_false_of rfl ?_
        exact ⟨_, _, rfl, Same.tr s9 (Same.tr s912 s13)⟩
  · rintro σ H9 ⟨v5, v12, rfl, s9⟩
    have L9 := Lines.same s9 L8
    have ht9 := s9 _ _ ht8
    have hD9 := s9 _ _ hD8
    have hpl9 := s9 _ _ hpl8
    have hlb9 := s9 _ _ hlb8
    clear s9 L8 ht8 hD8 hpl8 hlb8
    refine ⟨_, rfl, _, rfl, l, ls, rfl, L9, G, fun F' H10 m w' p q t b e B' s10 hA hb he => ?_⟩
    obtain rfl : F = F' := B.same B'
    intro td htd
    refine ⟨upd_same, turnedK, rfl, by decide, ?_⟩
    rw [turned_merge]
    have s11 : Same H10 (upd (upd H10 td (.dK [])) td (.dK turnedK)) := same_put (same_new htd) htd
    have W : Wd K (upd (upd H10 td (.dK [])) td (.dK turnedK)) l tp D pl lb m w' p q t b e td ls fs F :=
      ⟨Lines.same (Same.tr s10 s11) L9, s11 _ _ (s10 _ _ ht9), s11 _ _ (s10 _ _ hD9), s11 _ _ (s10 _ _ hpl9), s11 _ _ (s10 _ _ hlb9), hA.same s11, s11 _ _ hb, s11 _ _ he, upd_same⟩
    generalize upd (upd H10 td (.dK [])) td (.dK turnedK) = H11 at *
    clear s11 htd s10 hA hb he L9 ht9 hD9 hpl9 hlb9
    obtain ⟨⟨dx, hm⟩, hw, ⟨ps, hpp, hpsl⟩, hq, htt, _⟩ := id W.A
    have hwl : (((asmTo F ls ls.length).map V.int).length : Int) = (S F ls (ls.length - 1) : Int) + 1 := by
      rw [List.length_map, asm_len ls.length (Nat.le_refl _), S_last G]; rfl
    refine ⟨_, rfl, m, CA K, dx, _, _, rfl, hm, T.cl_Assembled.c, T.na_Assembled_words, aFw _ _ _ _ _, w', _, rfl, Or.inl (SqL.of hw), _, rfl, 1, rfl, pl, _, -1, _, rfl, rfl, SqL.of W.pl, at_last (starts_last G), _, _, rfl, rfl, rfl, _, rfl, ?_⟩
    refine if_false_of (by rw [hwl]; simp) ?_
    refine ⟨_, rfl, m, CA K, dx, _, _, rfl, hm, T.cl_Assembled.c, T.na_Assembled_places, aFp _ _ _ _ _, p, _, rfl, Or.inl (SqL.of hpp), _, rfl, m, CA K, dx, _, _, rfl, hm, T.cl_Assembled.c, T.na_Assembled_words, aFw _ _ _ _ _, w', _, rfl, Or.inl (SqL.of hw), rfl, _, rfl, ?_⟩
    refine if_false_of (by rw [hpsl, List.length_map]; simp) ?_
    refine ⟨_, rfl, m, CA K, dx, _, _, rfl, hm, T.cl_Assembled.c, T.na_Assembled_labels, aFb _ _ _ _ _, _, rfl, b, lb, _, _, rfl, rfl, W.b, W.lb, rfl, fun x hx => ⟨nodup_get (labs_nodup _ _ _ _ (by simp)) x hx, labs_flat _ _ _ _ (by simp) x hx⟩, _, rfl, ?_⟩
    refine if_false_of rfl ?_
    refine ⟨_, rfl, m, CA K, dx, _, _, rfl, hm, T.cl_Assembled.c, T.na_Assembled_traps, aFt _ _ _ _ _, t, _, rfl, Or.inl (SqL.of htt), fun l1 hl1 => ?_⟩
    have s1 := same_new (o := .lst [.ref e]) hl1
    refine ⟨_, rfl, 1, rfl, pl, _, -1, _, rfl, rfl, SqL.of (s1 _ _ W.pl), at_last (starts_last G), (by show 2 ≤ sizeLine; decide), fun T1 hT1 => ?_⟩
    have s2 := same_new (o := .tup [.int (S F ls (ls.length - 1) : Int), .str "told"]) hT1
    refine ⟨(by show 1 ≤ sizeLine; decide), fun L2 hL2 => ?_⟩
    have s3 := same_new (o := .lst [.ref T1]) hL2
    refine ⟨trapD (S F ls (ls.length - 1) : Int), trapD (S F ls (ls.length - 1) : Int), dp_trap (Same.tr s2 s3 _ _ upd_same) (Same.tr s1 (Same.tr s2 s3) _ _ W.e), dp_trap upd_same (s3 _ _ upd_same), trapD_ok _, trapD_ok _, _, rfl, ?_⟩
    rw [trapD_same]
    refine if_false_of rfl ?_
    have W2 := W.same (Same.tr s1 (Same.tr s2 s3))
    clear s1 s2 s3 W hm hw hpp hq htt
    generalize upd (upd (upd H11 l1 (.lst [.ref e])) T1 (.tup [.int (S F ls (ls.length - 1) : Int), .str "told"])) L2 (.lst [.ref T1]) = H12 at *
    refine ⟨_, rfl, D, rfl, ⟨_, SqL.of W2.D⟩, ?_⟩
    refine for_list (a := D) (xs := nats (brs ls)) (fun n σ H' => ∃ (v8 v13 v14 v15 : Option V), σ = [some (.ref sl), some (.ref d), some (.ref l), some (.ref tp), some (.ref D), v5, some (.ref m), some (.ref td), v8, some (.bl true), some (.ref pl), some (.ref lb), v12, v13, v14, v15] ∧ Same H12 H') ?_ ?_ ?_ ?_
    · exact ⟨_, _, _, _, rfl, Same.rf⟩
    · rintro n σ H' _ ⟨v8, v13, v14, v15, rfl, s13⟩
      exact SqL.of (s13 _ _ W2.D)
    · rintro n x σ H13 hx ⟨v8, v13, v14, v15, rfl, s13⟩
      obtain ⟨i, hi, rfl⟩ := nat_get hx
      obtain ⟨o, g, hbr⟩ := brs_at hi
      obtain ⟨ho, j, hj⟩ := G.br i o g hbr
      have W := W2.same s13
      obtain ⟨as', hl, hL, hll⟩ := id W.L
      obtain ⟨ai, hai, hat⟩ := hL.get i _ hbr
      obtain ⟨_, pp, hline⟩ := hat
      obtain ⟨⟨dx, hm⟩, hw, _⟩ := id W.A
      have hilt : i < ls.length := by
        by_cases c : i < ls.length
        · exact c
        · rw [List.getElem?_eq_none (by omega)] at hbr; cases hbr
      have hst : (nats (starts 0 (szs F 0 ls)))[i]? = some (.int (S F ls i : Int)) := by
        rw [List.getElem?_map, starts_S hilt]; rfl
      have ed : (S F ls j : Int) - (S F ls i : Int) = dist F ls i g := dist_eq hj
      obtain ⟨dl1, dl2⟩ := dist_le (F := F) hll (Nat.le_of_lt hilt) hj
      refine ⟨_, rfl, _, rfl, l, _, (i : Int), _, rfl, rfl, SqL.of hl, at_of (j := i) rfl (at_refs hai), _, rfl, _, rfl, pl, _, (i : Int), _, rfl, rfl, SqL.of W.pl, at_of (j := i) rfl hst, _, _, rfl, ?_⟩
      refine ⟨_, rfl, _, rfl, ai, _, 4, _, rfl, rfl, SqT.of hline, at_of (j := 4) rfl rfl, lb, .int (S F ls j : Int), rfl, (by rw [← labs_S hj]; exact DGet.k (k := .inl (g : Int)) W.lb), _, rfl, _, _, rfl, rfl, ?_⟩
      refine ⟨_, rfl, _, rfl, tp, _, rfl, Or.inl (SqL.of W.tp), rfl, flat_nats fs, _, rfl, ?_⟩
      show if inV (.int (i : Int)) (nats fs) = true then _ else _
      have hFi : decide (i ∈ fs) = F i := by rw [← hF]
      rw [inV_nats, hFi]
      cases eF : F i with
      | true =>
        refine if_true_of rfl ?_
        have ew : wordsOf F ls i (.br o g) = [wB (trn o) (4 * 2), wJ (4 * (dist F ls i g - 1))] := if_pos eF
        have h0 : ((asmTo F ls ls.length).map V.int)[S F ls i]? = some (.int (insW (.br (trn o) 2))) := asm_at (k := 0) hbr (by rw [ew]; rfl)
        have h1 : ((asmTo F ls ls.length).map V.int)[S F ls i + 1]? = some (.int (insW (.jal (dist F ls i g - 1)))) := asm_at (k := 1) hbr (by rw [ew]; rfl)
        have ok0 : insOk (.br (trn o) 2) := ⟨trn_ok o ho, by decide, by decide⟩
        have ok1 : insOk (.jal (dist F ls i g - 1)) := ⟨by omega, by omega⟩
        refine ⟨_, rfl, m, CA K, dx, _, _, rfl, hm, T.cl_Assembled.c, T.na_Assembled_words, aFw _ _ _ _ _, _, rfl, w', _, (S F ls i : Int), _, rfl, rfl, SqL.of hw, at_of (j := S F ls i) rfl h0, _, rfl, _, rfl, ok0, trivial, fun H14 t1 s14 ht1 => ?_⟩
        have W14 := W.same s14
        refine ⟨_, rfl, _, rfl, ai, _, 1, _, rfl, rfl, SqT.of (s14 _ _ hline), at_of (j := 1) rfl rfl, td, .str (opn (trn o)), rfl, (by rw [← turned_get ho]; exact DGet.k (k := .inr (opn o)) W14.td), (by show 4 ≤ sizeLine; decide), fun T2 hT2 => ?_⟩
        have s15 := same_new (o := .tup (insV (.br (trn o) 2))) hT2
        refine ⟨insD (.br (trn o) 2), insD (.br (trn o) 2), dp_ins (s15 _ _ ht1), dp_ins upd_same, insD_ok ok0, insD_ok ok0, _, rfl, ?_⟩
        rw [insD_same]
        refine if_false_of rfl ?_
        have W15 := W14.same s15
        obtain ⟨⟨dx2, hm2⟩, hw2, _⟩ := id W15.A
        refine ⟨_, rfl, m, CA K, dx2, _, _, rfl, hm2, T.cl_Assembled.c, T.na_Assembled_words, aFw _ _ _ _ _, _, rfl, _, _, rfl, rfl, w', _, (S F ls i : Int) + 1, _, rfl, rfl, SqL.of hw2, at_of (j := S F ls i + 1) rfl h1, _, rfl, _, rfl, ok1, trivial, fun H16 t3 s16 ht3 => ?_⟩
        refine ⟨_, rfl, _, _, rfl, rfl, _, _, rfl, rfl, Or.inl ⟨by decide, by decide⟩, (by show 4 ≤ sizeLine; decide), fun T4 hT4 => ?_⟩
        rw [ed]
        have s17 := same_new (o := .tup (insV (.jal (dist F ls i g - 1)))) hT4
        refine ⟨insD (.jal (dist F ls i g - 1)), insD (.jal (dist F ls i g - 1)), dp_ins (s17 _ _ ht3), dp_ins upd_same, insD_ok ok1, insD_ok ok1, _, rfl, ?_⟩
        rw [insD_same]
        refine if_false_of rfl ?_
        exact ⟨_, _, _, _, rfl, Same.tr s13 (Same.tr s14 (Same.tr s15 (Same.tr s16 s17)))⟩
      | false =>
        refine if_false_of rfl ?_
        have ew : wordsOf F ls i (.br o g) = [wB o (4 * dist F ls i g)] := if_neg (by rw [eF]; exact Bool.false_ne_true)
        have h0 : ((asmTo F ls ls.length).map V.int)[S F ls i]? = some (.int (insW (.br o (dist F ls i g)))) := asm_at (k := 0) hbr (by rw [ew]; rfl)
        have hre := B.fit i o g hbr eF
        unfold reach at hre
        rw [Bool.and_eq_true, decide_eq_true_eq, decide_eq_true_eq] at hre
        have ok0 : insOk (.br o (dist F ls i g)) := ⟨ho, hre.1, hre.2⟩
        refine ⟨_, rfl, m, CA K, dx, _, _, rfl, hm, T.cl_Assembled.c, T.na_Assembled_words, aFw _ _ _ _ _, _, rfl, w', _, (S F ls i : Int), _, rfl, rfl, SqL.of hw, at_of (j := S F ls i) rfl h0, _, rfl, _, rfl, ok0, trivial, fun H14 t1 s14 ht1 => ?_⟩
        refine ⟨_, rfl, ai, _, 1, _, rfl, rfl, SqT.of (s14 _ _ hline), at_of (j := 1) rfl rfl, _, rfl, _, _, rfl, rfl, Or.inl ⟨by decide, by decide⟩, (by show 4 ≤ sizeLine; decide), fun T2 hT2 => ?_⟩
        rw [ed]
        have s15 := same_new (o := .tup (insV (.br o (dist F ls i g)))) hT2
        refine ⟨insD (.br o (dist F ls i g)), insD (.br o (dist F ls i g)), dp_ins (s15 _ _ ht1), dp_ins upd_same, insD_ok ok0, insD_ok ok0, _, rfl, ?_⟩
        rw [insD_same]
        refine if_false_of rfl ?_
        exact ⟨_, _, _, _, rfl, Same.tr s13 (Same.tr s14 s15)⟩
    · rintro σ H13 ⟨v8, v13, v14, v15, rfl, s13⟩
      have W3 := W2.same s13
      clear s13 W2
      obtain ⟨as2, hl3, hL3, hll3⟩ := id W3.L
      have hal3 := hL3.len
      refine ⟨_, rfl, l, as2.map V.ref, rfl, SqL.of hl3, ?_⟩
      refine for_it (walk_enum (K := K) (a := l) (xs := as2.map V.ref)) (fun i σ H' => ∃ (v8 v14 : Option V), σ = [some (.ref sl), some (.ref d), some (.ref l), some (.ref tp), some (.ref D), v5, some (.ref m), some (.ref td), v8, some (.bl true), some (.ref pl), some (.ref lb), v12, v13, v14, v15] ∧ Same H13 H') ?_ ?_ ?_ ?_
      · exact ⟨_, _, rfl, Same.rf⟩
      · rintro i σ H' _ ⟨v8, v14, rfl, s14⟩
        exact SqL.of (s14 _ _ hl3)
      · rintro i x σ H14 H15 hi ⟨v8, v14, rfl, s14⟩ y
        obtain ⟨Tt, x, y, rfl, hT, rfl, e1, e2⟩ := y
        injection e1 with e1
        subst e1
        rw [List.length_map, hal3] at hi
        obtain ⟨ai, hai, rfl⟩ := ref_get e2
        obtain ⟨ln, hln, hat⟩ := hL3.at hai
        have s15 : Same H13 (upd H14 Tt (.tup [.int (i : Nat), .ref ai])) := Same.tr s14 (same_new hT)
        have hat := hat.keep (as := []) (ButL.same s15) (fun a z => by cases z)
        have W := W3.same s15
        refine ⟨Tt, _, rfl, SqT.of upd_same, rfl, _, _, rfl, _, _, rfl, rfl, ?_⟩
        generalize upd H14 Tt (.tup [.int (i : Nat), .ref ai]) = H16 at *
        obtain ⟨xs', hf⟩ := hat.first
        refine ⟨_, rfl, ai, _, 0, _, rfl, rfl, SqT.of hf, at_of (j := 0) rfl rfl, rfl, _, rfl, ?_⟩
        cases ln with
        | jmp g =>
          refine if_true_of rfl ?_
          obtain ⟨pp, hline⟩ := hat
          obtain ⟨j, hj⟩ := G.jm i g hln
          obtain ⟨⟨dx, hm⟩, hw, _⟩ := id W.A
          obtain ⟨dl1, dl2⟩ := dist_le (F := F) hll3 (Nat.le_of_lt hi) hj
          have ed : (S F ls j : Int) - (S F ls i : Int) = dist F ls i g := dist_eq hj
          have hst : (nats (starts 0 (szs F 0 ls)))[i]? = some (.int (S F ls i : Int)) := by
            rw [List.getElem?_map, starts_S hi]; rfl
          refine ⟨_, rfl, _, rfl, _, rfl, _, _, _, rfl, l, tp, ls, i, .jmp g, fs, rfl, rfl, rfl, W.L, hln, W.tp, rfl, _, rfl, ?_⟩
          refine ite2 (fun c => ?_) (fun _ => if_false_of rfl ⟨_, _, rfl, s15⟩)
          have c1 : size0 (.jmp g) (ls.drop (i + 1)) = 1 := by
            injection c with c
            have : (if (isBr (Ln.jmp g) && decide (i ∈ fs)) = true then 2 else size0 (.jmp g) (ls.drop (i + 1))) = size0 (.jmp g) (ls.drop (i + 1)) := rfl
            rw [this] at c
            omega
          have ew : wordsOf F ls i (.jmp g) = [wJ (4 * dist F ls i g)] := wj1 (by rw [c1]; decide)
          have h0 : ((asmTo F ls ls.length).map V.int)[S F ls i]? = some (.int (insW (.jal (dist F ls i g)))) := asm_at (k := 0) hln (by rw [ew]; rfl)
          have ok0 : insOk (.jal (dist F ls i g)) := ⟨by omega, by omega⟩
          refine ⟨_, rfl, m, CA K, dx, _, _, rfl, hm, T.cl_Assembled.c, T.na_Assembled_words, aFw _ _ _ _ _, _, rfl, _, rfl, pl, _, (i : Int), _, rfl, rfl, SqL.of W.pl, at_of (j := i) rfl hst, w', _, (S F ls i : Int), _, rfl, rfl, SqL.of hw, at_of (j := S F ls i) rfl h0, _, rfl, _, rfl, ok0, trivial, fun H17 t1 s17 ht1 => ?_⟩
          have W17 := W.same s17
          refine ⟨_, rfl, _, rfl, ai, _, 1, _, rfl, rfl, SqT.of (s17 _ _ hline), at_of (j := 1) rfl rfl, lb, .int (S F ls j : Int), rfl, (by rw [← labs_S hj]; exact DGet.k (k := .inl (g : Int)) W17.lb), _, rfl, _, rfl, pl, _, (i : Int), _, rfl, rfl, SqL.of W17.pl, at_of (j := i) rfl hst, _, _, rfl, rfl, _, _, rfl, rfl, Or.inl ⟨by decide, by decide⟩, (by show 4 ≤ sizeLine; decide), fun T2 hT2 => ?_⟩
          rw [ed]
          have s18 := same_new (o := .tup (insV (.jal (dist F ls i g)))) hT2
          refine ⟨insD (.jal (dist F ls i g)), insD (.jal (dist F ls i g)), dp_ins (s18 _ _ ht1), dp_ins upd_same, insD_ok ok0, insD_ok ok0, _, rfl, ?_⟩
          rw [insD_same]
          refine if_false_of rfl ?_
          exact ⟨_, _, rfl, Same.tr s15 (Same.tr s17 s18)⟩
        | _ =>
          refine if_false_of rfl (if_false_of rfl ?_)
          exact ⟨_, _, rfl, s15⟩
      · rintro σ H14 ⟨v8, v14, rfl, s14⟩
        obtain ⟨⟨dx, hm⟩, _, _, hq, _⟩ := (W3.same s14).A
        refine ⟨_, rfl, m, CA K, dx, _, _, rfl, hm, T.cl_Assembled.c, T.na_Assembled_patches, aFq _ _ _ _ _, q, _, rfl, Or.inl (SqL.of hq), fun l5 hl5 => ?_⟩
        refine ⟨(by show 0 ≤ sizeLine; decide), fun L6 hL6 => ?_⟩
        refine ⟨.list [], .list [], dp_nil (same_new hL6 _ _ upd_same), dp_nil upd_same, (by kernel_rfl), (by kernel_rfl), ?_⟩
        have e0 : PyData.eqv (.list []) (.list []) = true := by simp [PyData.eqv, PyData.eqvAll]
        rw [e0]
        exact h _
end
end K70


namespace K70
open PySem PySem.Spec PyProof.Rows L2 My Mir
theorem law_binds {K : PySem.W.Frag} {f : Addr} {fd : FuncData} (F : FunD K "law" "law" (defArgs s_law) (defBody s_law) (defScope s_law) [] [] f fd) (s : Shared) (v : Value) : BindsTo s fd ⟨[v], []⟩ [("script", v)] :=
  L2.FunD.bindsA (ps := ["script"]) F (fun _ _ _ _ _ _ us hl => match us, hl with | [_], _ => rfl) s [v] rfl
theorem law_core {P : Program} {w : World} {K : PySem.W.Frag} {mg : Str → Option Value} {h : Heap} {fa : Addr} {L : Nat} (T : Txt K mg w) (KX : K.In h) (hmg : mg ("law" : PySem.Str) = some (.ref fa))
    (ok : ∀ base : Heap, Gd P w K mg base CX0 L "law" ["script"] (sp_law K)) :
    ∃ (K : PySem.W.Frag) (fd : FuncData) (sp : Sp), K.In h ∧ (∀ (s : Shared) (u : Value), BindsTo s fd ⟨[u], []⟩ [(("script" : PySem.Str), u)]) ∧
        (∀ (H : Hp) (a : Addr) (ns : List Int), ns.length ≤ 63 → Only H → SqL K H a (ns.map V.int) → sp [.ref a] H (fun v _ => v = .bl true) fun _ _ _ => False) ∧
        ∀ base : Heap, K.In base → base.Ns mainGlobals mg → FnOk P w K mg base CX0 L fa fd ["script"] sp := by
  obtain ⟨f, fd, hm, F⟩ := T.d_law.ex
  have ef : f = fa := by
    rw [hmg] at hm
    injection hm with hm
    injection hm with hm
    exact hm.symm
  subst ef
  refine ⟨K, fd, sp_law K, KX, law_binds F, fun H a ns hl _ hS => ⟨_, rfl, a, ns, rfl, hS, fun _ => rfl⟩, fun base _ _ => ?_⟩
  obtain ⟨f', fd', hm', ok, _, _, oc', od', osl', lk'⟩ := (ok base).ex
  have ef : f' = f := by
    rw [hmg] at hm'
    injection hm' with hm'
    injection hm' with hm'
    exact hm'.symm
  subst ef
  obtain ⟨oc, od, dV, kV, doc, pm, an, cdv, ct, osl, _, lk, _⟩ := F.ex
  rw [lk'] at lk
  have ed : fd' = fd := by
    injection lk with lk
    injection lk with _ _ lk _
    injection lk with lk
  rw [← ed]
  exact ok
end K70

namespace K70E
open PySem PySem.Spec PyProof.Rows L2 My Ru K70
section
variable {P : Program} {w : World} {K : PySem.W.Frag} {h : Heap} {mg : Str → Option Value}
theorem df_mk (X : K.In h) (G : h.Ns mainGlobals mg) {x : Str} {st : Stmt} (c1 : (He.Fa.glo x).ok K = true) (c2 : ∃ fd, FunD K x x (defArgs st) (defBody st) (defScope st) [] [] (He.fAd K (x, none)) fd) : Df K mg x st := by
  obtain ⟨fd, F⟩ := c2
  exact ⟨He.ga K x, fd, He.glo_ok X G c1, F⟩
theorem dm_mk {C m qual : Str} {st : Stmt} (c1 : (He.Fa.meth C m).ok K = true) (c2 : ∃ fd, FunD K m qual (defArgs st) (defBody st) (defScope st) [] [] (He.fAd K (C, some m)) fd) : Dm K (He.ga K C) m qual st := by
  obtain ⟨fd, F⟩ := c2
  exact ⟨He.ma K (He.ga K C) m, fd, He.meth_ok c1, F⟩
theorem txt_mk (X : K.In h) (G : h.Ns mainGlobals mg) (c : He.SaysX hfa hfn hts [] hex w h K) : Txt K mg w := by
  have cd := c.t.d
  have cx : hex K = true := c.more
  obtain ⟨v0, cx⟩ := He.ba cx
  obtain ⟨v1, cx⟩ := He.ba cx
  obtain ⟨v2, cx⟩ := He.ba cx
  obtain ⟨v3, cx⟩ := He.ba cx
  obtain ⟨v4, cx⟩ := He.ba cx
  obtain ⟨v5, cx⟩ := He.ba cx
  obtain ⟨v6, cx⟩ := He.ba cx
  obtain ⟨v7, cx⟩ := He.ba cx
  have kvW : ∀ q, q ∈ ([("number", .glo "_write_number"), ("branch", .glo "_write_branch"), ("jump", .glo "_write_jump"), ("whole", .glo "_write_whole")] : List (Str × He.Dv)) → KDct K w (He.ga K "WRITERS") q.1 (q.2.v K) := by
    intro q hq
    obtain ⟨es, nn, kd⟩ := c.t.tab 1 (t := (fun K => He.ga K "WRITERS", ["three", "number", "shift", "store", "branch", "upper", "jump", "whole"])) rfl
    obtain ⟨u, e1, e2⟩ := He.valsB_ok v5 hq
    exact ⟨es, nn, u, kd.at_, kd.lit, e1, e2⟩
  have kvR : ∀ q, q ∈ ([("branch", .glo "_read_branch"), ("jump", .glo "_read_jump")] : List (Str × He.Dv)) → KDct K w (He.ga K "READERS") q.1 (q.2.v K) := by
    intro q hq
    obtain ⟨es, nn, kd⟩ := c.t.tab 2 (t := (fun K => He.ga K "READERS", ["three", "number", "shift", "store", "branch", "upper", "jump", "whole"])) rfl
    obtain ⟨u, e1, e2⟩ := He.valsB_ok v6 hq
    exact ⟨es, nn, u, kd.at_, kd.lit, e1, e2⟩
  have kvT : ∀ q, q ∈ (((List.range 6).map fun o => (opn o, He.Dv.str (opn (trn o)))) : List (Str × He.Dv)) → KDct K w (He.ga K "TURNED") q.1 (q.2.v K) := by
    intro q hq
    obtain ⟨es, nn, kd⟩ := c.t.tab 3 (t := (fun K => He.ga K "TURNED", ["beq", "bne", "blt", "bge", "bltu", "bgeu"])) rfl
    obtain ⟨u, e1, e2⟩ := He.valsB_ok v7 hq
    exact ⟨es, nn, u, kd.at_, kd.lit, e1, e2⟩
  obtain ⟨esB, nB, kB, hB⟩ := Kg.kintB_ok v4
  exact {
    d_is_number := df_mk X G (cd.fact 0 (f := .glo "is_number") rfl) (cd.def_ 0 (d := dd_is_number) rfl),
    d_encode := df_mk X G (cd.fact 1 (f := .glo "encode") rfl) (cd.def_ 1 (d := dd_encode) rfl),
    d__are_registers := df_mk X G (cd.fact 2 (f := .glo "_are_registers") rfl) (cd.def_ 2 (d := dd__are_registers) rfl),
    d__is_distance := df_mk X G (cd.fact 3 (f := .glo "_is_distance") rfl) (cd.def_ 3 (d := dd__is_distance) rfl),
    d__write_three := df_mk X G (cd.fact 4 (f := .glo "_write_three") rfl) (cd.def_ 4 (d := dd__write_three) rfl),
    d__write_number := df_mk X G (cd.fact 5 (f := .glo "_write_number") rfl) (cd.def_ 5 (d := dd__write_number) rfl),
    d__write_store := df_mk X G (cd.fact 6 (f := .glo "_write_store") rfl) (cd.def_ 6 (d := dd__write_store) rfl),
    d__write_branch := df_mk X G (cd.fact 7 (f := .glo "_write_branch") rfl) (cd.def_ 7 (d := dd__write_branch) rfl),
    d__write_upper := df_mk X G (cd.fact 8 (f := .glo "_write_upper") rfl) (cd.def_ 8 (d := dd__write_upper) rfl),
    d__write_jump := df_mk X G (cd.fact 9 (f := .glo "_write_jump") rfl) (cd.def_ 9 (d := dd__write_jump) rfl),
    d__write_whole := df_mk X G (cd.fact 10 (f := .glo "_write_whole") rfl) (cd.def_ 10 (d := dd__write_whole) rfl),
    d_decode := df_mk X G (cd.fact 11 (f := .glo "decode") rfl) (cd.def_ 11 (d := dd_decode) rfl),
    d__with_sign := df_mk X G (cd.fact 12 (f := .glo "_with_sign") rfl) (cd.def_ 12 (d := dd__with_sign) rfl),
    d__read_three := df_mk X G (cd.fact 13 (f := .glo "_read_three") rfl) (cd.def_ 13 (d := dd__read_three) rfl),
    d__read_number := df_mk X G (cd.fact 14 (f := .glo "_read_number") rfl) (cd.def_ 14 (d := dd__read_number) rfl),
    d__read_store := df_mk X G (cd.fact 15 (f := .glo "_read_store") rfl) (cd.def_ 15 (d := dd__read_store) rfl),
    d__read_branch := df_mk X G (cd.fact 16 (f := .glo "_read_branch") rfl) (cd.def_ 16 (d := dd__read_branch) rfl),
    d__read_upper := df_mk X G (cd.fact 17 (f := .glo "_read_upper") rfl) (cd.def_ 17 (d := dd__read_upper) rfl),
    d__read_jump := df_mk X G (cd.fact 18 (f := .glo "_read_jump") rfl) (cd.def_ 18 (d := dd__read_jump) rfl),
    d__read_whole := df_mk X G (cd.fact 19 (f := .glo "_read_whole") rfl) (cd.def_ 19 (d := dd__read_whole) rfl),
    d_long_branches := df_mk X G (cd.fact 20 (f := .glo "long_branches") rfl) (cd.def_ 20 (d := dd_long_branches) rfl),
    d__sizes_of := df_mk X G (cd.fact 21 (f := .glo "_sizes_of") rfl) (cd.def_ 21 (d := dd__sizes_of) rfl),
    d__starts_of := df_mk X G (cd.fact 22 (f := .glo "_starts_of") rfl) (cd.def_ 22 (d := dd__starts_of) rfl),
    d_assembled := df_mk X G (cd.fact 23 (f := .glo "assembled") rfl) (cd.def_ 23 (d := dd_assembled) rfl),
    d__add_word := df_mk X G (cd.fact 24 (f := .glo "_add_word") rfl) (cd.def_ 24 (d := dd__add_word) rfl),
    d__add_branch := df_mk X G (cd.fact 25 (f := .glo "_add_branch") rfl) (cd.def_ 25 (d := dd__add_branch) rfl),
    d__law_cell_at := df_mk X G (cd.fact 26 (f := .glo "_law_cell_at") rfl) (cd.def_ 26 (d := dd__law_cell_at) rfl),
    d__law_draw := df_mk X G (cd.fact 27 (f := .glo "_law_draw") rfl) (cd.def_ 27 (d := dd__law_draw) rfl),
    d__law_number := df_mk X G (cd.fact 28 (f := .glo "_law_number") rfl) (cd.def_ 28 (d := dd__law_number) rfl),
    d__law_next := df_mk X G (cd.fact 29 (f := .glo "_law_next") rfl) (cd.def_ 29 (d := dd__law_next) rfl),
    d__law_pick := df_mk X G (cd.fact 30 (f := .glo "_law_pick") rfl) (cd.def_ 30 (d := dd__law_pick) rfl),
    d__law_lines := df_mk X G (cd.fact 31 (f := .glo "_law_lines") rfl) (cd.def_ 31 (d := dd__law_lines) rfl),
    d__law_size := df_mk X G (cd.fact 32 (f := .glo "_law_size") rfl) (cd.def_ 32 (d := dd__law_size) rfl),
    d__law_fits := df_mk X G (cd.fact 33 (f := .glo "_law_fits") rfl) (cd.def_ 33 (d := dd__law_fits) rfl),
    d_law := df_mk X G (cd.fact 34 (f := .glo "law") rfl) (cd.def_ 34 (d := dd_law) rfl),
    d_Assembled___init__ := dm_mk (cd.fact 68 (f := .meth "Assembled" "__init__") rfl) (cd.def_ 35 (d := dd_Assembled___init__) rfl),
    d_Assembled___eq__ := dm_mk (cd.fact 69 (f := .meth "Assembled" "__eq__") rfl) (cd.def_ 36 (d := dd_Assembled___eq__) rfl),
    d_Assembled_word := dm_mk (cd.fact 70 (f := .meth "Assembled" "word") rfl) (cd.def_ 37 (d := dd_Assembled_word) rfl),
    c_MOST_REGISTER := He.int_ok X G (cd.fact 54 (f := .int "MOST_REGISTER" (31)) rfl),
    c_HALF_NUMBER := He.int_ok X G (cd.fact 55 (f := .int "HALF_NUMBER" (2048)) rfl),
    c_HALF_BRANCH := He.int_ok X G (cd.fact 56 (f := .int "HALF_BRANCH" (4096)) rfl),
    c_HALF_JUMP := He.int_ok X G (cd.fact 57 (f := .int "HALF_JUMP" (1048576)) rfl),
    c_LEAST_REACH := He.int_ok X G (cd.fact 58 (f := .int "LEAST_REACH" (-1024)) rfl),
    c_MOST_REACH := He.int_ok X G (cd.fact 59 (f := .int "MOST_REACH" (1023)) rfl),
    c_BYTES := He.int_ok X G (cd.fact 60 (f := .int "BYTES" (4)) rfl),
    c_FORMS := He.glo_ok X G (cd.fact 35 (f := .glo "FORMS") rfl),
    k_FORMS := c.t.tab 0 (t := (fun K => He.ga K "FORMS", ((["add", "sub", "sll", "slt", "sltu", "xor", "srl", "sra", "or", "and", "mul", "mulh", "mulhsu", "mulhu", "div", "divu", "rem", "remu", "addi", "slti"] : List Str) ++ (["sltiu", "xori", "ori", "andi", "slli", "srli", "srai", "lb", "lh", "lw", "lbu", "lhu", "jalr", "sb", "sh", "sw", "beq", "bne", "blt", "bge"] : List Str) ++ (["bltu", "bgeu", "lui", "auipc", "jal", "ecall", "ebreak", "fence"] : List Str)))) rfl,
    c_BY_LAST_BITS := He.glo_ok X G (cd.fact 36 (f := .glo "BY_LAST_BITS") rfl),
    c_WRITERS := He.glo_ok X G (cd.fact 37 (f := .glo "WRITERS") rfl),
    k_WRITERS := c.t.tab 1 (t := (fun K => He.ga K "WRITERS", ["three", "number", "shift", "store", "branch", "upper", "jump", "whole"])) rfl,
    c_READERS := He.glo_ok X G (cd.fact 38 (f := .glo "READERS") rfl),
    k_READERS := c.t.tab 2 (t := (fun K => He.ga K "READERS", ["three", "number", "shift", "store", "branch", "upper", "jump", "whole"])) rfl,
    c_TURNED := He.glo_ok X G (cd.fact 39 (f := .glo "TURNED") rfl),
    k_TURNED := c.t.tab 3 (t := (fun K => He.ga K "TURNED", ["beq", "bne", "blt", "bge", "bltu", "bgeu"])) rfl,
    cl_Assembled := ⟨He.glo_ok X G (cd.fact 40 (f := .glo "Assembled") rfl), He.cls_ok (cd.fact 61 (f := .cls "Assembled") rfl)⟩,
    mk_Assembled := ⟨(He.mkr_ok (cd.fact 62 (f := .mkr "Assembled") rfl)).makes, (He.mkr_ok (cd.fact 62 (f := .mkr "Assembled") rfl)).kp⟩,
    na_Assembled_words := He.noat_ok (cd.fact 63 (f := .noat "Assembled" "words") rfl),
    na_Assembled_places := He.noat_ok (cd.fact 64 (f := .noat "Assembled" "places") rfl),
    na_Assembled_patches := He.noat_ok (cd.fact 65 (f := .noat "Assembled" "patches") rfl),
    na_Assembled_traps := He.noat_ok (cd.fact 66 (f := .noat "Assembled" "traps") rfl),
    na_Assembled_labels := He.noat_ok (cd.fact 67 (f := .noat "Assembled" "labels") rfl),
    n_len := He.free_ok X G (cd.fact 41 (f := .free "len") rfl),
    n_tuple := He.free_ok X G (cd.fact 42 (f := .free "tuple") rfl),
    n_isinstance := He.free_ok X G (cd.fact 43 (f := .free "isinstance") rfl),
    n_str := He.free_ok X G (cd.fact 44 (f := .free "str") rfl),
    n_int := He.free_ok X G (cd.fact 45 (f := .free "int") rfl),
    n_bool := He.free_ok X G (cd.fact 46 (f := .free "bool") rfl),
    n_all := He.free_ok X G (cd.fact 47 (f := .free "all") rfl),
    n_enumerate := He.free_ok X G (cd.fact 48 (f := .free "enumerate") rfl),
    n_range := He.free_ok X G (cd.fact 49 (f := .free "range") rfl),
    n_zip := He.free_ok X G (cd.fact 50 (f := .free "zip") rfl),
    n_reversed := He.free_ok X G (cd.fact 51 (f := .free "reversed") rfl),
    n_list := He.free_ok X G (cd.fact 52 (f := .free "list") rfl),
    n_sorted := He.free_ok X G (cd.fact 53 (f := .free "sorted") rfl),
    ga__write_number := He.glo_ok X G (cd.fact 5 (f := .glo "_write_number") rfl),
    ga__write_branch := He.glo_ok X G (cd.fact 7 (f := .glo "_write_branch") rfl),
    ga__write_jump := He.glo_ok X G (cd.fact 9 (f := .glo "_write_jump") rfl),
    ga__write_whole := He.glo_ok X G (cd.fact 10 (f := .glo "_write_whole") rfl),
    ga__read_branch := He.glo_ok X G (cd.fact 16 (f := .glo "_read_branch") rfl),
    ga__read_jump := He.glo_ok X G (cd.fact 18 (f := .glo "_read_jump") rfl),
    f_br := fun o ho => Kg.entA_ok (List.all_eq_true.mp v0 o (List.mem_range.mpr ho)),
    f_addi := Kg.entA_ok v1,
    f_jal := Kg.entA_ok v2,
    f_ebreak := Kg.entA_ok v3,
    k_BY := ⟨esB, nB, kB, hB _ (List.mem_of_getElem? (i := 0) rfl), hB _ (List.mem_of_getElem? (i := 1) rfl)⟩,
    w_number := kvW ("number", .glo "_write_number") (List.mem_of_getElem? (i := 0) rfl),
    w_branch := kvW ("branch", .glo "_write_branch") (List.mem_of_getElem? (i := 1) rfl),
    w_jump := kvW ("jump", .glo "_write_jump") (List.mem_of_getElem? (i := 2) rfl),
    w_whole := kvW ("whole", .glo "_write_whole") (List.mem_of_getElem? (i := 3) rfl),
    r_branch := kvR ("branch", .glo "_read_branch") (List.mem_of_getElem? (i := 0) rfl),
    r_jump := kvR ("jump", .glo "_read_jump") (List.mem_of_getElem? (i := 1) rfl),
    t_TURNED := fun o ho => kvT (opn o, He.Dv.str (opn (trn o))) (List.mem_map.mpr ⟨o, List.mem_range.mpr ho, rfl⟩) }
theorem all_ok (X : K.In h) (G : h.Ns mainGlobals mg) (c : He.SaysX hfa hfn hts [] hex w h K) (base : Heap) : Gd P w K mg base CX0 8 "law" ["script"] (sp_law K) := by
  have T := txt_mk X G c
  have G_is_number := g_is_number (P := P) (base := base) T 
  have G__are_registers := g__are_registers (P := P) (base := base) T G_is_number
  have G__is_distance := g__is_distance (P := P) (base := base) T G_is_number
  have G__write_number := g__write_number (P := P) (base := base) T G__are_registers G_is_number
  have G__write_branch := g__write_branch (P := P) (base := base) T G__are_registers G__is_distance
  have G__write_jump := g__write_jump (P := P) (base := base) T G__are_registers G__is_distance G_is_number
  have G__write_whole := g__write_whole (P := P) (base := base) T G_is_number
  have G__with_sign := g__with_sign (P := P) (base := base) T 
  have G__read_branch := g__read_branch (P := P) (base := base) T G__with_sign
  have G__read_jump := g__read_jump (P := P) (base := base) T G__with_sign
  have G_encode := g_encode (P := P) (base := base) T G__write_number G__write_branch G__write_jump G__write_whole
  have G_decode := g_decode (P := P) (base := base) T G__read_branch G__read_jump
  have G_Assembled___init__ := g_Assembled___init__ (P := P) (base := base) T 
  have G_Assembled_word := g_Assembled_word (P := P) (base := base) T G_encode
  have G__sizes_of := g__sizes_of (P := P) (base := base) T 
  have G__starts_of := g__starts_of (P := P) (base := base) T 
  have G_long_branches := g_long_branches (P := P) (base := base) T G__sizes_of G__starts_of
  have G__add_word := g__add_word (P := P) (base := base) T G_Assembled_word
  have G__add_branch := g__add_branch (P := P) (base := base) T G_Assembled_word
  have G_assembled := g_assembled (P := P) (base := base) T G__sizes_of G_long_branches G__starts_of G_Assembled___init__ G__add_word G__add_branch G_Assembled_word
  have G__law_cell_at := g__law_cell_at (P := P) (base := base) T 
  have G__law_draw := g__law_draw (P := P) (base := base) T 
  have G__law_number := g__law_number (P := P) (base := base) T G__law_draw
  have G__law_next := g__law_next (P := P) (base := base) T G__law_cell_at G__law_number
  have G__law_pick := g__law_pick (P := P) (base := base) T G__law_next
  have G__law_size := g__law_size (P := P) (base := base) T 
  have G__law_fits := g__law_fits (P := P) (base := base) T G__law_size
  have G__law_lines := g__law_lines (P := P) (base := base) T G__law_next G__law_pick
  have G_law := g_law (P := P) (base := base) T G__law_lines G__law_next G_long_branches G__law_fits G_assembled G_decode G__law_size
  exact G_law
end
end K70E


namespace K70E
open PySem PySem.Spec PyProof.Rows L2 My Ru K70
theorem name_law : (HandSHeadRun.topDef (PySem.W.OpenLaw.row PySem.Challenge.rw_trueimage_k70_long_branches).prog 54).name = ("law" : PySem.Str) := by kernel_rfl
theorem end_core {P : Program} {w : World} {K : PySem.W.Frag} {h : Heap} {mg : Str → Option Value} {fa : Addr} (KX : K.In h) (G : h.Ns mainGlobals mg) (c : He.SaysX hfa hfn hts [] hex w h K) (hmg : mg ("law" : PySem.Str) = some (.ref fa)) :
    ∃ (K : PySem.W.Frag) (fd : FuncData) (sp : Sp), K.In h ∧ (∀ (s : Shared) (u : Value), BindsTo s fd ⟨[u], []⟩ [(("script" : PySem.Str), u)]) ∧
        (∀ (H : Hp) (a : Addr) (ns : List Int), ns.length ≤ 63 → Only H → SqL K H a (ns.map V.int) → sp [.ref a] H (fun v _ => v = .bl true) fun _ _ _ => False) ∧
        ∀ base : Heap, K.In base → base.Ns mainGlobals mg → FnOk P w K mg base CX0 8 fa fd ["script"] sp :=
  K70.law_core (txt_mk KX G c) KX hmg (fun base => all_ok KX G c base)
end K70E
open PySem PySem.W PySem.Calls PyProof.Rows
set_option maxRecDepth 100000 in
set_option maxHeartbeats 8000000 in
theorem PySem.Challenge.cw_trueimage_k70_long_branches_holds : PySem.Challenge.rw_trueimage_k70_long_branches.Holds := by
  w_on; o_law
  refine HandSHeadRun.head_any (r := OpenLaw.row PySem.Challenge.rw_trueimage_k70_long_branches) (q := view (OpenLaw.row PySem.Challenge.rw_trueimage_k70_long_branches).prog [54]) (H := K70E.hk) (ob := K70E.hob) (M := 9000) (loose := K70E.hloose) (d := HandSHeadRun.topDef (OpenLaw.row PySem.Challenge.rw_trueimage_k70_long_branches).prog 54) (kwd := []) K70E.hob_eq
    (by kernel_rfl) (fun s => by kernel_rfl) K70E.hrun (by kernel_rfl) (by kernel_rfl) (by kernel_rfl) (by rfl) (by first | assumption | decide +kernel) (by decide +kernel) ⟨rfl, rfl, rfl, rfl, rfl, by decide +kernel⟩ ?hw ?hc
  case hw => w_witness2
  case hc =>
    refine L2.walk_ofE (l := PySem.Challenge.rw_trueimage_k70_long_branches) (n := 63) (k := 8) (x := "script") (CX := L2.CX0) rfl (by decide) (by kernel_rfl) ⟨rfl, by decide, by decide⟩ ?F (fun _ _ _ _ z => z)
    intro w mg fa h Y G hmg0
    obtain ⟨K, KX, c⟩ := Y
    exact K70E.end_core KX G c (K70E.name_law ▸ hmg0)

